import PyProof.Rows.All
import Wide.All
import OpenK.AllK
import Wide.FinOn
import HandS.ForMost
import HandS.IsInst
import HandS.TupAny
import HandS.Deep
import HandS.Flow
import HandS.WideBits
import PyProof.ReprRoads
import HandS.ExcInit
import HandS.Walk
import HandS.Codes
import PyProof.Rows.StrCase
import PyProof.StrBlock2
import HandS.WordsExc
import HandS.RaiseMore
import HandS.ExcIs
import HandS.FStr
import HandS.StrMore
import HandS.MakeKwOnly
import KE.KExcSuper
import KE.KSuper
import KE.KExcIs
import HandS.ExcField
import HandS.ExcOwn
import PySem.Challenge.RW_onefacers_k19_errors_made
import KE.DataEq
import HandS.ForExc
set_option Elab.async false
set_option linter.all false
set_option maxRecDepth 100000
set_option maxHeartbeats 4000000
/-! Dat0: data in the heap, the state by data alone. -/
namespace Dat
open PySem PySem.Spec PyProof.Rows L2

def Ex (H H' : Hp) : Prop := ∀ a o, H a = some o → H' a = some o
theorem Ex.refl (H : Hp) : Ex H H := fun _ _ h => h
theorem Ex.trans {H H1 H2 : Hp} (a : Ex H H1) (b : Ex H1 H2) : Ex H H2 := fun x o h => b x o (a x o h)
theorem Ex.none {H H' : Hp} (e : Ex H H') {p : Addr} (h : H' p = Option.none) : H p = Option.none := by
  cases q : H p with
  | none => rfl
  | some o => rw [e p o q] at h; cases h
theorem Ex.new {H : Hp} {p : Addr} {o : HO} (h : H p = Option.none) : Ex H (upd H p o) := fun a u e => by
  rw [upd_ne (ne_of_none e h)]; exact e
/-- an object that H does not know may change -/
theorem Ex.mut {H H' : Hp} {p : Addr} {o : HO} (e : Ex H H') (h : H p = Option.none) : Ex H (upd H' p o) := fun a u ha => by
  rw [upd_ne (ne_of_none ha h)]; exact e a u ha
theorem Ex.both {H H' : Hp} {p : Addr} {o : HO} (e : Ex H H') : Ex (upd H p o) (upd H' p o) := fun a u ha => by
  by_cases h : a = p
  · subst h; rw [upd_same] at ha ⊢; exact ha
  · rw [upd_ne h] at ha ⊢; exact e a u ha

/-- data: what a value is, whatever address it has -/
inductive Dt where
  | non | bl (b : Bool) | int (i : Int) | str (x : Str) | lst (xs : List Dt) | tup (xs : List Dt) | dic (ks vs : List Dt) | obj (C : Addr) (ns : List Str) (vs : List Dt) | err (C : Addr) (ns : List Str) (vs : List Dt)

def keyD : Key → Dt
  | .inl i => .int i
  | .inr x => .str x

mutual
inductive Dq (H : Hp) : V → Dt → Prop
  | non : Dq H .non .non
  | bl (b : Bool) : Dq H (.bl b) (.bl b)
  | int (i : Int) : Dq H (.int i) (.int i)
  | str (x : Str) : Dq H (.str x) (.str x)
  | lst {a : Addr} {xs : List V} {ds : List Dt} : H a = some (.lst xs) → DqA H xs ds → Dq H (.ref a) (.lst ds)
  | tup {a : Addr} {xs : List V} {ds : List Dt} : H a = some (.tup xs) → DqA H xs ds → Dq H (.ref a) (.tup ds)
  | dic {a : Addr} {kvs : List (Key × V)} {ds : List Dt} : H a = some (.dK kvs) → DqA H (kvs.map (·.2)) ds → Dq H (.ref a) (.dic (kvs.map fun kv => keyD kv.1) ds)
  | obj {a C dx : Addr} {fs : List (Str × V)} {ds : List Dt} : H a = some (.ins C dx fs) → DqA H (fs.map (·.2)) ds → Dq H (.ref a) (.obj C (fs.map (·.1)) ds)
  | err {a C dx : Addr} {fs : List (Str × V)} {ds : List Dt} : H a = some (exo a C (some dx)) → H dx = some (exd dx fs) → DqA H (fs.map (·.2)) ds → Dq H (.ref a) (.err C (fs.map (·.1)) ds)
  | err0 {a C : Addr} : H a = some (exo a C none) → Dq H (.ref a) (.err C [] [])
inductive DqA (H : Hp) : List V → List Dt → Prop
  | nil : DqA H [] []
  | cons {v : V} {vs : List V} {d : Dt} {ds : List Dt} : Dq H v d → DqA H vs ds → DqA H (v :: vs) (d :: ds)
end

mutual
theorem Dq.mono {H H' : Hp} (e : Ex H H') : ∀ {v : V} {d : Dt}, Dq H v d → Dq H' v d
  | _, _, .non => .non
  | _, _, .bl b => .bl b
  | _, _, .int i => .int i
  | _, _, .str x => .str x
  | _, _, .lst h q => .lst (e _ _ h) (DqA.mono e q)
  | _, _, .tup h q => .tup (e _ _ h) (DqA.mono e q)
  | _, _, .dic h q => .dic (e _ _ h) (DqA.mono e q)
  | _, _, .obj h q => .obj (e _ _ h) (DqA.mono e q)
  | _, _, .err h k q => .err (e _ _ h) (e _ _ k) (DqA.mono e q)
  | _, _, .err0 h => .err0 (e _ _ h)
theorem DqA.mono {H H' : Hp} (e : Ex H H') : ∀ {vs : List V} {ds : List Dt}, DqA H vs ds → DqA H' vs ds
  | _, _, .nil => .nil
  | _, _, .cons h q => .cons (Dq.mono e h) (DqA.mono e q)
end

section
variable {H : Hp}
theorem DqA.length : ∀ {vs : List V} {ds : List Dt}, DqA H vs ds → vs.length = ds.length
  | _, _, .nil => rfl
  | _, _, .cons _ q => by rw [List.length_cons, List.length_cons, DqA.length q]
theorem DqA.get : ∀ {vs : List V} {ds : List Dt} {i : Nat} {d : Dt}, DqA H vs ds → ds[i]? = some d → ∃ v, vs[i]? = some v ∧ Dq H v d
  | _, _, _, _, .nil, e => by simp at e
  | _, _, 0, _, .cons h _, e => by simp at e; subst e; exact ⟨_, rfl, h⟩
  | _, _, i + 1, d, .cons _ q, e => by
    obtain ⟨v, h1, h2⟩ := DqA.get (i := i) (d := d) q (by simpa using e)
    exact ⟨v, by simpa using h1, h2⟩
theorem DqA.getV : ∀ {vs : List V} {ds : List Dt} {i : Nat} {v : V}, DqA H vs ds → vs[i]? = some v → ∃ d, ds[i]? = some d ∧ Dq H v d
  | _, _, _, _, .nil, e => by simp at e
  | _, _, 0, _, .cons h _, e => by simp at e; subst e; exact ⟨_, rfl, h⟩
  | _, _, i + 1, d, .cons _ q, e => by
    obtain ⟨v, h1, h2⟩ := DqA.getV (i := i) (v := d) q (by simpa using e)
    exact ⟨v, by simpa using h1, h2⟩
theorem DqA.append : ∀ {vs ws : List V} {ds es : List Dt}, DqA H vs ds → DqA H ws es → DqA H (vs ++ ws) (ds ++ es)
  | _, _, _, _, .nil, s => s
  | _, _, _, _, .cons h q, s => .cons h (DqA.append q s)
theorem DqA.take : ∀ {vs : List V} {ds : List Dt} (n : Nat), DqA H vs ds → DqA H (vs.take n) (ds.take n)
  | _, _, 0, _ => .nil
  | _, _, _ + 1, .nil => .nil
  | _, _, n + 1, .cons h q => .cons h (DqA.take n q)
theorem DqA.drop : ∀ {vs : List V} {ds : List Dt} (n : Nat), DqA H vs ds → DqA H (vs.drop n) (ds.drop n)
  | _, _, 0, q => q
  | _, _, _ + 1, .nil => .nil
  | _, _, n + 1, .cons _ q => DqA.drop n q
theorem DqA.one {v : V} {d : Dt} (h : Dq H v d) : DqA H [v] [d] := .cons h .nil
theorem DqA.snoc {vs : List V} {ds : List Dt} {v : V} {d : Dt} (q : DqA H vs ds) (h : Dq H v d) : DqA H (vs ++ [v]) (ds ++ [d]) := q.append (.one h)
theorem DqA.ints : ∀ {vs : List V} {ns : List Int}, DqA H vs (ns.map Dt.int) → vs = ns.map V.int
  | _, [], .nil => rfl
  | _, n :: ns, .cons h q => by cases h; rw [DqA.ints q]; rfl
theorem DqA.bls : ∀ {vs : List V} {ns : List Bool}, DqA H vs (ns.map Dt.bl) → vs = ns.map V.bl
  | _, [], .nil => rfl
  | _, n :: ns, .cons h q => by cases h; rw [DqA.bls q]; rfl
theorem DqA.strs : ∀ {vs : List V} {ns : List Str}, DqA H vs (ns.map Dt.str) → vs = ns.map V.str
  | _, [], .nil => rfl
  | _, n :: ns, .cons h q => by cases h; rw [DqA.strs q]; rfl
theorem DqA.ofInts : ∀ (ns : List Int), DqA H (ns.map V.int) (ns.map Dt.int)
  | [] => .nil
  | n :: ns => .cons (.int n) (DqA.ofInts ns)
theorem DqA.ofStrs : ∀ (ns : List Str), DqA H (ns.map V.str) (ns.map Dt.str)
  | [] => .nil
  | n :: ns => .cons (.str n) (DqA.ofStrs ns)
end

/-! ### what a slot holds, what changes -/
/-- unknown; data; an object that may change, by its address -/
inductive SV where
  | no | dat (d : Dt) | at (p : Addr) | ty (n : String) | sc (K : PySem.W.Frag) (a : Addr) (ns : List Int) | tys (ns : List String)
/-- what is known of an object that may change: the law's pot of draws; a list of data; a dict -/
inductive MO where
  | pot | lst (ds : List Dt) | dic (ks : List Key) (vs : List Dt) | ins (C : Addr) (ns : List Str) (vs : List Dt)
abbrev Mus := Addr → Option MO
def Mus.put (μ : Mus) (p : Addr) (o : MO) : Mus := fun q => if q = p then some o else μ q
theorem put_same {μ : Mus} {p : Addr} {o : MO} : μ.put p o p = some o := by unfold Mus.put; rw [if_pos rfl]
theorem put_ne {μ : Mus} {p q : Addr} {o : MO} (h : q ≠ p) : μ.put p o q = μ q := by unfold Mus.put; rw [if_neg h]
theorem put_put {μ : Mus} {p : Addr} {o o' : MO} : (μ.put p o).put p o' = μ.put p o' := by
  funext q; unfold Mus.put; split <;> rfl
theorem put_self {μ : Mus} {p : Addr} {o : MO} (h : μ p = some o) : μ.put p o = μ := by
  funext q; unfold Mus.put; split
  · rename_i e; rw [e, h]
  · rfl
def Mus.Sub (μ ν : Mus) : Prop := ∀ p o, μ p = some o → ν p = some o
theorem Mus.Sub.refl (μ : Mus) : μ.Sub μ := fun _ _ h => h
theorem Mus.Sub.trans {μ ν ξ : Mus} (a : μ.Sub ν) (b : ν.Sub ξ) : μ.Sub ξ := fun p o h => b p o (a p o h)
theorem Mus.Sub.put {μ ν : Mus} {p : Addr} {o : MO} (h : μ.Sub ν) (hp : μ p = none) : μ.Sub (ν.put p o) := fun q u e => by
  rw [put_ne (fun z => by rw [z, hp] at e; cases e)]; exact h q u e

def MoOk (B H : Hp) (p : Addr) : MO → Prop
  | .pot => ∃ a b : Int, 0 ≤ a ∧ 0 ≤ b ∧ b < 4294967296 ∧ H p = some (.lst [.int a, .int b])
  | .lst ds => ∃ xs, H p = some (.lst xs) ∧ DqA B xs ds
  | .dic ks vs => ∃ kvs : List (Key × V), H p = some (.dK kvs) ∧ kvs.map (·.1) = ks ∧ DqA B (kvs.map (·.2)) vs
  | .ins C ns vs => ∃ (dx : Addr) (fs : List (Str × V)), H p = some (.ins C dx fs) ∧ fs.map (·.1) = ns ∧ DqA B (fs.map (·.2)) vs
theorem MoOk.mono {B B' H H' : Hp} {p : Addr} {o : MO} (h : MoOk B H p o) (e : Ex B B') (k : H' p = H p) : MoOk B' H' p o := by
  cases o with
  | pot => obtain ⟨a, b, h1, h2, h3, h4⟩ := h; exact ⟨a, b, h1, h2, h3, by rw [k]; exact h4⟩
  | lst ds => obtain ⟨xs, h1, h2⟩ := h; exact ⟨xs, by rw [k]; exact h1, h2.mono e⟩
  | dic ks vs => obtain ⟨kvs, h1, h2, h3⟩ := h; exact ⟨kvs, by rw [k]; exact h1, h2, h3.mono e⟩
  | ins C ns vs => obtain ⟨dx, fs, h1, h2, h3⟩ := h; exact ⟨dx, fs, by rw [k]; exact h1, h2, h3.mono e⟩
theorem MoOk.there {B H : Hp} {p : Addr} {o : MO} (h : MoOk B H p o) : H p ≠ none := by
  cases o with
  | pot => obtain ⟨a, b, _, _, _, h4⟩ := h; rw [h4]; exact nofun
  | lst ds => obtain ⟨xs, h1, _⟩ := h; rw [h1]; exact nofun
  | dic ks vs => obtain ⟨kvs, h1, _⟩ := h; rw [h1]; exact nofun
  | ins C ns vs => obtain ⟨dx, fs, h1, _⟩ := h; rw [h1]; exact nofun

/-- a def's entry: what of data was known, the heap, which objects it may change -/
structure Wd where
  B : Hp
  H : Hp
  M : Addr → Prop
structure SInv (w : Wd) (B H : Hp) (μ : Mus) : Prop where
  b0 : Ex w.B B
  bh : Ex B H
  keep : ∀ q o, ¬ w.M q → w.H q = some o → H q = some o
  there : ∀ q, w.H q ≠ none → H q ≠ none
  out : ∀ q, w.H q ≠ none → w.B q = none → B q = none
  mus : ∀ p o, μ p = some o → B p = none ∧ MoOk B H p o ∧ (w.M p ∨ w.H p = none)

section
variable {w : Wd} {B H : Hp} {μ : Mus} {p : Addr} {o : HO}
theorem SInv.free (I : SInv w B H μ) (hp : H p = none) : B p = none ∧ μ p = none ∧ w.H p = none := by
  refine ⟨I.bh.none hp, ?_, ?_⟩
  · cases e : μ p with
    | none => rfl
    | some o => exact absurd hp (I.mus p o e).2.1.there
  · cases e : w.H p with
    | none => rfl
    | some o => exact absurd hp (I.there p (by rw [e]; exact nofun))
/-- new data -/
theorem SInv.new (I : SInv w B H μ) (hp : H p = none) (o : HO) : SInv w (upd B p o) (upd H p o) μ := by
  obtain ⟨hb, hm, hw⟩ := I.free hp
  have ne : ∀ q, H q ≠ none → q ≠ p := fun q h e => h (e ▸ hp)
  refine ⟨I.b0.mut (I.b0.none hb), I.bh.both, fun q u hM hq => ?_, fun q hq => ?_, fun q hq hB => ?_, fun q u hq => ?_⟩
  · rw [upd_ne (ne q (I.there q (by rw [hq]; exact nofun)))]; exact I.keep q u hM hq
  · rw [upd_ne (ne q (I.there q hq))]; exact I.there q hq
  · rw [upd_ne (ne q (I.there q hq))]; exact I.out q hq hB
  · obtain ⟨h1, h2, h3⟩ := I.mus q u hq
    have hne := ne q h2.there
    exact ⟨by rw [upd_ne hne]; exact h1, h2.mono (Ex.new hb) (upd_ne hne), h3⟩
/-- a new object that may change -/
theorem SInv.newM (I : SInv w B H μ) (hp : H p = none) (m : MO) (h : MoOk B (upd H p o) p m) : SInv w B (upd H p o) (μ.put p m) := by
  obtain ⟨hb, hm, hw⟩ := I.free hp
  have ne : ∀ q, H q ≠ none → q ≠ p := fun q h e => h (e ▸ hp)
  refine ⟨I.b0, I.bh.mut hb, fun q u hM hq => ?_, fun q hq => ?_, I.out, fun q u hq => ?_⟩
  · rw [upd_ne (ne q (I.there q (by rw [hq]; exact nofun)))]; exact I.keep q u hM hq
  · rw [upd_ne (ne q (I.there q hq))]; exact I.there q hq
  · by_cases e : q = p
    · subst e
      rw [put_same] at hq
      cases hq
      exact ⟨hb, h, .inr hw⟩
    · rw [put_ne e] at hq
      obtain ⟨h1, h2, h3⟩ := I.mus q u hq
      exact ⟨h1, h2.mono (Ex.refl B) (upd_ne e), h3⟩
/-- it changes -/
theorem SInv.set (I : SInv w B H μ) {m0 : MO} (hm : μ p = some m0) (m : MO) (h : MoOk B (upd H p o) p m) : SInv w B (upd H p o) (μ.put p m) := by
  obtain ⟨hb, h0, hw⟩ := I.mus p m0 hm
  have nw : ∀ q u, ¬ w.M q → w.H q = some u → q ≠ p := fun q u hM hq e => by
    subst e
    rcases hw with k | k
    · exact hM k
    · rw [k] at hq; cases hq
  refine ⟨I.b0, I.bh.mut hb, fun q u hM hq => ?_, fun q hq => ?_, I.out, fun q u hq => ?_⟩
  · rw [upd_ne (nw q u hM hq)]; exact I.keep q u hM hq
  · by_cases e : q = p
    · subst e; rw [upd_same]; exact nofun
    · rw [upd_ne e]; exact I.there q hq
  · by_cases e : q = p
    · subst e
      rw [put_same] at hq
      cases hq
      exact ⟨hb, h, hw⟩
    · rw [put_ne e] at hq
      obtain ⟨h1, h2, h3⟩ := I.mus q u hq
      exact ⟨h1, h2.mono (Ex.refl B) (upd_ne e), h3⟩
theorem SInv.sub (I : SInv w B H μ) {ν : Mus} (s : ν.Sub μ) : SInv w B H ν := ⟨I.b0, I.bh, I.keep, I.there, I.out, fun p o h => I.mus p o (s p o h)⟩
/-- an own list becomes data -/
theorem SInv.freeze (I : SInv w B H μ) {ds : List Dt} {ν : Mus} (hm : μ p = some (.lst ds)) (hw : w.H p = none) (s : ν.Sub μ) (hn : ν p = none) :
    ∃ B', SInv w B' H ν ∧ Ex B B' ∧ Dq B' (.ref p) (.lst ds) := by
  obtain ⟨hb, ⟨xs, h1, h2⟩, _⟩ := I.mus p _ hm
  refine ⟨upd B p (.lst xs), ⟨I.b0.mut (I.b0.none hb), fun q u hq => ?_, I.keep, I.there, fun q hq hB => ?_, fun q u hq => ?_⟩, Ex.new hb, .lst upd_same (h2.mono (Ex.new hb))⟩
  · by_cases e : q = p
    · subst e; rw [upd_same] at hq; cases hq; exact h1
    · rw [upd_ne e] at hq; exact I.bh q u hq
  · rw [upd_ne (fun e => hq (by rw [e]; exact hw))]; exact I.out q hq hB
  · have e : q ≠ p := fun z => by rw [z, hn] at hq; cases hq
    obtain ⟨h1, h2, h3⟩ := I.mus q u (s q u hq)
    exact ⟨by rw [upd_ne e]; exact h1, h2.mono (Ex.new hb) rfl, h3⟩
/-- an own object becomes data -/
theorem SInv.freezeI (I : SInv w B H μ) {C : Addr} {ns : List Str} {ds : List Dt} {ν : Mus} (hm : μ p = some (.ins C ns ds)) (hw : w.H p = none) (s : ν.Sub μ) (hn : ν p = none) :
    ∃ B', SInv w B' H ν ∧ Ex B B' ∧ Dq B' (.ref p) (.obj C ns ds) := by
  obtain ⟨hb, ⟨dx, fs, h1, rfl, h2⟩, _⟩ := I.mus p _ hm
  refine ⟨upd B p (.ins C dx fs), ⟨I.b0.mut (I.b0.none hb), fun q u hq => ?_, I.keep, I.there, fun q hq hB => ?_, fun q u hq => ?_⟩, Ex.new hb, .obj upd_same (h2.mono (Ex.new hb))⟩
  · by_cases e : q = p
    · subst e; rw [upd_same] at hq; cases hq; exact h1
    · rw [upd_ne e] at hq; exact I.bh q u hq
  · rw [upd_ne (fun e => hq (by rw [e]; exact hw))]; exact I.out q hq hB
  · have e : q ≠ p := fun z => by rw [z, hn] at hq; cases hq
    obtain ⟨h1, h2, h3⟩ := I.mus q u (s q u hq)
    exact ⟨by rw [upd_ne e]; exact h1, h2.mono (Ex.new hb) rfl, h3⟩
/-- behind a call: from the callee's world to the caller's -/
theorem SInv.back (I : SInv w B H μ) {B' H' : Hp} {μ' : Mus} (J : SInv ⟨B, H, fun p => μ p ≠ none⟩ B' H' μ') : SInv w B' H' μ' := by
  refine ⟨I.b0.trans J.b0, J.bh, fun q u hM hq => ?_, fun q hq => J.there q (I.there q hq), fun q hq hB => J.out q (I.there q hq) (I.out q hq hB), fun q u hq => ?_⟩
  · refine J.keep q u (fun z => ?_) (I.keep q u hM hq)
    cases e : μ q with
    | none => exact z e
    | some m =>
      rcases (I.mus q m e).2.2 with k | k
      · exact hM k
      · rw [k] at hq; cases hq
  · obtain ⟨h1, h2, h3⟩ := J.mus q u hq
    refine ⟨h1, h2, ?_⟩
    rcases h3 with k | k
    · cases e : μ q with
      | none => exact absurd e k
      | some m => exact (I.mus q m e).2.2
    · refine .inr ?_
      cases e : w.H q with
      | none => rfl
      | some o => exact absurd k (I.there q (by rw [e]; exact nofun))
theorem SInv.start {B H : Hp} {μ : Mus} (e : Ex B H) (h : ∀ p o, μ p = some o → B p = none ∧ MoOk B H p o) : SInv ⟨B, H, fun p => μ p ≠ none⟩ B H μ :=
  ⟨Ex.refl B, e, fun _ _ _ h => h, fun _ h => h, fun _ _ h => h, fun p o q => ⟨(h p o q).1, (h p o q).2, .inl (show μ p ≠ none by rw [q]; exact nofun)⟩⟩
end

def Svq (B : Hp) (v : V) : SV → Prop
  | .no => True
  | .dat d => Dq B v d
  | .at p => v = .ref p
  | .ty n => v = .ty n
  | .sc K a ns => v = .ref a ∧ SqL K B a (ns.map V.int)
  | .tys ns => ∃ a, v = .ref a ∧ B a = some (.tup (ns.map V.ty))
theorem Svq.mono {B B' : Hp} {v : V} {r : SV} (e : Ex B B') (h : Svq B v r) : Svq B' v r := by
  cases r with
  | no => trivial
  | dat d => exact Dq.mono e h
  | «at» p => exact h
  | ty n => exact h
  | sc K a ns => exact ⟨h.1, h.2.elim (fun z => .inl (z.elim (fun q => .inl (e _ _ q)) fun ⟨c, q⟩ => .inr ⟨c, e _ _ q⟩)) .inr⟩
  | tys ns => exact h.elim fun a z => ⟨a, z.1, e _ _ z.2⟩
inductive SvA (B : Hp) : List V → List SV → Prop
  | nil : SvA B [] []
  | cons {v : V} {vs : List V} {r : SV} {rs : List SV} : Svq B v r → SvA B vs rs → SvA B (v :: vs) (r :: rs)
theorem SvA.mono {B B' : Hp} (e : Ex B B') : ∀ {vs : List V} {rs : List SV}, SvA B vs rs → SvA B' vs rs
  | _, _, .nil => .nil
  | _, _, .cons h q => .cons (h.mono e) (SvA.mono e q)
theorem SvA.length {B : Hp} : ∀ {vs : List V} {rs : List SV}, SvA B vs rs → vs.length = rs.length
  | _, _, .nil => rfl
  | _, _, .cons _ q => by rw [List.length_cons, List.length_cons, SvA.length q]

/-- the slots, by what they hold -/
structure Sto (B : Hp) (σ : L2.St) (ρ : List SV) : Prop where
  len : σ.length = ρ.length
  get : ∀ (i : Nat) (r : SV), ρ[i]? = some r → r = .no ∨ ∃ v, σ[i]? = some (some v) ∧ Svq B v r
theorem Sto.mono {B B' : Hp} {σ : L2.St} {ρ : List SV} (e : Ex B B') (S : Sto B σ ρ) : Sto B' σ ρ := ⟨S.len, fun i r h => by
  rcases S.get i r h with q | ⟨v, h1, h2⟩
  · exact .inl q
  · exact .inr ⟨v, h1, h2.mono e⟩⟩
theorem Sto.set {B : Hp} {σ : L2.St} {ρ : List SV} (S : Sto B σ ρ) (i : Nat) {v : V} {r : SV} (h : Svq B v r) : Sto B (σ.set i (some v)) (ρ.set i r) := ⟨by rw [List.length_set, List.length_set, S.len], fun j u hj => by
  by_cases e : i = j
  · subst e
    by_cases hl : i < ρ.length
    · rw [List.getElem?_set_self hl] at hj
      cases hj
      exact .inr ⟨v, by rw [List.getElem?_set_self (by rw [S.len]; exact hl)], h⟩
    · rw [List.getElem?_eq_none (by rw [List.length_set]; omega)] at hj
      cases hj
  · rw [List.getElem?_set_ne e] at hj ⊢
    exact S.get j u hj⟩
theorem Sto.wipe {B : Hp} {σ : L2.St} {ρ : List SV} (S : Sto B σ ρ) : ∀ (vs : List Nat) (ρ' : List SV), ρ'.length = ρ.length → (∀ (i : Nat) r, ρ'[i]? = some r → r = .no ∨ (i ∉ vs ∧ ρ[i]? = some r)) → Sto B (L2.wipe σ vs) ρ' := fun vs ρ' hl h => by
  refine ⟨by rw [wipe_length, S.len, hl], fun i r hi => ?_⟩
  rcases h i r hi with e | ⟨hn, e⟩
  · exact .inl e
  · rcases S.get i r e with e | ⟨v, h1, h2⟩
    · exact .inl e
    · refine .inr ⟨v, ?_, h2⟩
      clear hi h e
      induction vs with
      | nil => exact h1
      | cons x xs ih =>
        unfold L2.wipe
        rw [List.getElem?_set_ne (fun z => hn (by rw [← z]; exact List.mem_cons_self))]
        exact ih fun z => hn (List.mem_cons_of_mem _ z)
end Dat

set_option Elab.async false
set_option linter.all false
set_option maxRecDepth 100000
set_option maxHeartbeats 4000000
/-! Dat1: the judgements over data, and the rules that follow the text. -/
namespace Dat
open PySem PySem.Spec PyProof.Rows L2

/-! ### what is meant, with no reading given -/
def tE (X : Cx) (e : Expr) : TE := fun σ H Q => ∀ pins s, Inv X pins σ H s → wpAny (model X.prog X.w) X.A (eval e X.env) (EP X pins σ Q) X.xe s
def tT (X : Cx) (e : Expr) : TT := fun σ H Q => ∀ pins s, Inv X pins σ H s → wpAny (model X.prog X.w) X.A (isTrue e X.env (eval e X.env)) (TP X pins σ Q) X.xe s
def tW (X : Cx) (e : Expr) : TT := fun σ H Q => ∀ (whole : Sem Value) pins s, Inv X pins σ H s → wpAny (model X.prog X.w) X.A (isTrue e X.env whole) (TP X pins σ Q) X.xe s
def tL (X : Cx) (es : List Expr) : TA := fun σ H Q => ∀ (pos : Pos) pins s, Inv X pins σ H s → wpAny (model X.prog X.w) X.A (spliced (backTo pos (starEach es X.env))) (AP X pins σ Q) X.xe s
def tS (X : Cx) (st : Stmt) : TS := fun D σ H => ∀ pins s, Inv X pins σ H s → wpAny (model X.prog X.w) X.A (exec st X.env) (SP X pins D) X.xe s
def tB_ (X : Cx) (sts : List Stmt) : TS := fun D σ H => ∀ pins s, Inv X pins σ H s → wpAny (model X.prog X.w) X.A (execs sts X.env) (SP X pins D) X.xe s
def tG (X : Cx) (tg : Expr) : TG := fun v σ H Q => ∀ pins s u, Inv X pins σ H s → RelV v u → wpAny (model X.prog X.w) X.A (assign tg X.env u) (fun _ s' => ∃ σ' H', Inv X pins σ' H' s' ∧ Q σ' H') X.xe s
def tI (X : Cx) (tg e : Expr) : TI := fun σ H R => ∀ pins s, Inv X pins σ H s → wpAny (model X.prog X.w) X.A (eval e X.env) (fun v s1 => wpAny (model X.prog X.w) X.A (pyIter v) (PIE X pins σ tg R) X.xe s1) X.xe s
def tP (X : Cx) (e : Option Expr) : TO := fun σ H Q => ∀ pins s, Inv X pins σ H s → wpAny (model X.prog X.w) X.A (evalPart e X.env) (fun u s' => ∃ o H', Inv X pins σ H' s' ∧ IsPart u o ∧ Q o H') X.xe s
def sO (X : Cx) (f : Value → Value → Sem Value) : R2 := fun x y H Q => ∀ pins s σ v u, Inv X pins σ H s → RelV x v → RelV y u → wpAny (model X.prog X.w) X.A (f v u) (EP X pins σ Q) X.xe s
def sU (X : Cx) (f : Value → Sem Value) : V → Hp → VK → Prop := fun x H Q => ∀ pins s σ v, Inv X pins σ H s → RelV x v → wpAny (model X.prog X.w) X.A (f v) (EP X pins σ Q) X.xe s
def sC (X : Cx) (f : Value) : List V → Hp → VK → Prop := fun xs H Q => ∀ pins s σ us, Inv X pins σ H s → Vals xs us → wpAny (model X.prog X.w) X.A (call f us) (EP X pins σ Q) X.xe s
def sM (X : Cx) (id : String) : V → List V → Hp → VK → Prop := fun x xs H Q => ∀ pins s σ v us, Inv X pins σ H s → RelV x v → Vals xs us → wpAny (model X.prog X.w) X.A (call (.builtin id) (v :: us)) (EP X pins σ Q) X.xe s
def sIx (X : Cx) : R2 := fun x y H Q => ∀ (value slice : Expr) pins s σ v u, Inv X pins σ H s → RelV x v → RelV y u → subscripted slice false v u = operate [v, u] (getItem v u) → wpAny (model X.prog X.w) X.A (subscriptTail value slice v u) (EP X pins σ Q) X.xe s
def sSl (X : Cx) : V → Option Int → Option Int → Hp → VK → Prop := fun x lo hi H Q => ∀ pins s σ v vl vu (sl : Addr), Inv X pins σ H s → RelV x v → s.heap.IsSliceOf sl vl vu .none → IsPart vl lo → IsPart vu hi →
  ∃ T id, typeLookup (.type T) "__getitem__" = pure (some (.builtin id)) ∧ s.TypeIs v T ∧ wpAny (model X.prog X.w) X.A (getItem v (.ref sl)) (EP X pins σ Q) X.xe s
section
variable {X : Cx} {e : Expr} {es : List Expr} {σ : L2.St} {H : Hp}
theorem pe_self : PE X e (tE X e) := ⟨fun pins s _ _ _ I h => h pins s I⟩
theorem pt_self : PT X e (tT X e) := ⟨fun pins s _ _ _ I h => h pins s I⟩
theorem pw_self : PW X e (tW X e) := ⟨fun whole pins s _ _ _ I h => h whole pins s I⟩
theorem pa_self : PA X es (tL X es) := ⟨fun pos pins s _ _ _ I h => h pos pins s I⟩
theorem ps_self {st : Stmt} : PS X st (tS X st) := ⟨fun pins s _ _ _ I h => h pins s I⟩
theorem pss_self {sts : List Stmt} : PSs X sts (tB_ X sts) := ⟨fun pins s _ _ _ I h => h pins s I⟩
theorem pg_self : PG X e (tG X e) := ⟨fun pins s _ _ _ u _ I r h => h pins s u I r⟩
theorem pi_self {tg : Expr} : PI X tg e (tI X tg e) := ⟨fun pins s _ _ _ I h => h pins s I⟩
theorem po_self {o : Option Expr} : PO X o (tP X o) := ⟨fun pins s _ _ _ I h => h pins s I⟩
theorem or_self {f : Value → Value → Sem Value} : OpR X f (sO X f) := fun pins s σ _ _ _ v u _ I rx ry h => h pins s σ v u I rx ry
theorem ur_self {f : Value → Sem Value} : UnR X f (sU X f) := fun pins s σ _ _ v _ I rx h => h pins s σ v I rx
theorem cr_self {f : Value} : CallR X f (sC X f) := fun pins s σ _ _ us _ I r h => h pins s σ us I r
theorem mr_self {id : String} : MtR X id (sM X id) := fun pins s σ _ _ _ v us _ I r rs h => h pins s σ v us I r rs
theorem ix_self : IxR X (sIx X) := fun value slice pins s σ _ _ _ v u _ I rx ry h hs => h value slice pins s σ v u I rx ry hs
theorem sl_self : SlR X (sSl X) := fun pins s σ _ _ v vl vu _ _ sl _ I rx hs pl pu h => h pins s σ v vl vu sl I rx hs pl pu
theorem tE_of {t : TE} {Q : VK} (h : PE X e t) (q : t σ H Q) : tE X e σ H Q := fun pins s I => h.run pins s σ H Q I q
theorem tT_of {t : TT} {Q : Bool → Hp → Prop} (h : PT X e t) (q : t σ H Q) : tT X e σ H Q := fun pins s I => h.run pins s σ H Q I q
theorem tW_of {t : TT} {Q : Bool → Hp → Prop} (h : PW X e t) (q : t σ H Q) : tW X e σ H Q := fun whole pins s I => h.run whole pins s σ H Q I q
theorem tL_of {t : TA} {Q : List V → Hp → Prop} (h : PA X es t) (q : t σ H Q) : tL X es σ H Q := fun pos pins s I => h.run pos pins s σ H Q I q
theorem tS_of {st : Stmt} {t : TS} {D : Ends} (h : PS X st t) (q : t D σ H) : tS X st D σ H := fun pins s I => h.run pins s σ H D I q
theorem tB_of {sts : List Stmt} {t : TS} {D : Ends} (h : PSs X sts t) (q : t D σ H) : tB_ X sts D σ H := fun pins s I => h.run pins s σ H D I q
theorem tG_of {t : TG} {v : V} {Q : L2.St → Hp → Prop} (h : PG X e t) (q : t v σ H Q) : tG X e v σ H Q := fun pins s u I r => h.run pins s σ H v u Q I r q
theorem tI_of {tg : Expr} {t : TI} {R : It → Hp → Prop} (h : PI X tg e t) (q : t σ H R) : tI X tg e σ H R := fun pins s I => h.run pins s σ H R I q
theorem tP_of {o : Option Expr} {t : TO} {Q : Option Int → Hp → Prop} (h : PO X o t) (q : t σ H Q) : tP X o σ H Q := fun pins s I => h.run pins s σ H Q I q
theorem sO_of {f : Value → Value → Sem Value} {r : R2} {x y : V} {Q : VK} (h : OpR X f r) (q : r x y H Q) : sO X f x y H Q := fun pins s σ v u I rx ry => h pins s σ H x y v u Q I rx ry q
theorem sU_of {f : Value → Sem Value} {r : V → Hp → VK → Prop} {x : V} {Q : VK} (h : UnR X f r) (q : r x H Q) : sU X f x H Q := fun pins s σ v I rx => h pins s σ H x v Q I rx q
theorem sC_of {f : Value} {r : List V → Hp → VK → Prop} {xs : List V} {Q : VK} (h : CallR X f r) (q : r xs H Q) : sC X f xs H Q := fun pins s σ us I rx => h pins s σ H xs us Q I rx q
theorem sM_of {id : String} {r : V → List V → Hp → VK → Prop} {x : V} {xs : List V} {Q : VK} (h : MtR X id r) (q : r x xs H Q) : sM X id x xs H Q := fun pins s σ v us I rx rs => h pins s σ H x xs v us Q I rx rs q
theorem sIx_of {r : R2} {x y : V} {Q : VK} (h : IxR X r) (q : r x y H Q) : sIx X x y H Q := fun value slice pins s σ v u I rx ry hs => h value slice pins s σ H x y v u Q I rx ry q hs
theorem sSl_of {r : V → Option Int → Option Int → Hp → VK → Prop} {x : V} {lo hi : Option Int} {Q : VK} (h : SlR X r) (q : r x lo hi H Q) : sSl X x lo hi H Q := fun pins s σ v vl vu sl I rx hs pl pu => h pins s σ H x v vl vu lo hi sl Q I rx hs pl pu q
end

/-! ### the judgements -/
/-- what is wanted of a value -/
def Kt (w : Wd) (B : Hp) (R : SV → Mus → Prop) (Q : VK) : Prop := ∀ v r B' H' μ', SInv w B' H' μ' → Ex B B' → Svq B' v r → R r μ' → Q v H'
theorem Kt.mono {w : Wd} {B B' : Hp} {R : SV → Mus → Prop} {Q : VK} (e : Ex B B') (k : Kt w B R Q) : Kt w B' R Q := fun v r B2 H2 μ2 I e2 => k v r B2 H2 μ2 I (e.trans e2)
def DE (X : Cx) (w : Wd) (e : Expr) (ρ : List SV) (μ : Mus) (R : SV → Mus → Prop) : Prop :=
  ∀ σ B H, Sto B σ ρ → SInv w B H μ → ∀ Q : VK, Kt w B R Q → tE X e σ H Q
def DT (X : Cx) (w : Wd) (e : Expr) (ρ : List SV) (μ : Mus) (R : Bool → Mus → Prop) : Prop :=
  ∀ σ B H, Sto B σ ρ → SInv w B H μ → ∀ Q : Bool → Hp → Prop, (∀ b B' H' μ', SInv w B' H' μ' → Ex B B' → R b μ' → Q b H') → tT X e σ H Q
def DW (X : Cx) (w : Wd) (e : Expr) (ρ : List SV) (μ : Mus) (R : Bool → Mus → Prop) : Prop :=
  ∀ σ B H, Sto B σ ρ → SInv w B H μ → ∀ Q : Bool → Hp → Prop, (∀ b B' H' μ', SInv w B' H' μ' → Ex B B' → R b μ' → Q b H') → tW X e σ H Q
def DA (X : Cx) (w : Wd) (es : List Expr) (ρ : List SV) (μ : Mus) (R : List SV → Mus → Prop) : Prop :=
  ∀ σ B H, Sto B σ ρ → SInv w B H μ → ∀ Q : List V → Hp → Prop, (∀ vs rs B' H' μ', SInv w B' H' μ' → Ex B B' → SvA B' vs rs → R rs μ' → Q vs H') → tL X es σ H Q
def DP (X : Cx) (w : Wd) (e : Option Expr) (ρ : List SV) (μ : Mus) (R : Option Int → Mus → Prop) : Prop :=
  ∀ σ B H, Sto B σ ρ → SInv w B H μ → ∀ Q : Option Int → Hp → Prop, (∀ o B' H' μ', SInv w B' H' μ' → Ex B B' → R o μ' → Q o H') → tP X e σ H Q
/-- a target takes a value -/
def DG (X : Cx) (w : Wd) (tg : Expr) (r : SV) (ρ : List SV) (μ : Mus) (R : List SV → Mus → Prop) : Prop :=
  ∀ σ B H v, Sto B σ ρ → SInv w B H μ → Svq B v r → ∀ Q : L2.St → Hp → Prop, (∀ σ' B' H' ρ' μ', Sto B' σ' ρ' → SInv w B' H' μ' → Ex B B' → R ρ' μ' → Q σ' H') → tG X tg v σ H Q
/-- operations on values -/
def OpD (X : Cx) (w : Wd) (f : Value → Value → Sem Value) (r r' : SV) (μ : Mus) (R : SV → Mus → Prop) : Prop :=
  ∀ B H v u, SInv w B H μ → Svq B v r → Svq B u r' → ∀ Q, Kt w B R Q → sO X f v u H Q
def UnD (X : Cx) (w : Wd) (f : Value → Sem Value) (r : SV) (μ : Mus) (R : SV → Mus → Prop) : Prop :=
  ∀ B H v, SInv w B H μ → Svq B v r → ∀ Q, Kt w B R Q → sU X f v H Q
def CaD (X : Cx) (w : Wd) (f : Value) (rs : List SV) (μ : Mus) (R : SV → Mus → Prop) : Prop :=
  ∀ B H vs, SInv w B H μ → SvA B vs rs → ∀ Q, Kt w B R Q → sC X f vs H Q
def MtD (X : Cx) (w : Wd) (id : String) (r : SV) (rs : List SV) (μ : Mus) (R : SV → Mus → Prop) : Prop :=
  ∀ B H v vs, SInv w B H μ → Svq B v r → SvA B vs rs → ∀ Q, Kt w B R Q → sM X id v vs H Q
def IxD (X : Cx) (w : Wd) (r r' : SV) (μ : Mus) (R : SV → Mus → Prop) : Prop :=
  ∀ B H v u, SInv w B H μ → Svq B v r → Svq B u r' → ∀ Q, Kt w B R Q → sIx X v u H Q
def SlD (X : Cx) (w : Wd) (r : SV) (lo hi : Option Int) (μ : Mus) (R : SV → Mus → Prop) : Prop :=
  ∀ B H v, SInv w B H μ → Svq B v r → ∀ Q, Kt w B R Q → sSl X v lo hi H Q
/-- the type of a receiver of a built-in type's method -/
def TyD (K : PySem.W.Frag) (T : String) (r : SV) (μ : Mus) : Prop := ∀ w B H v, SInv w B H μ → Svq B v r → tyV K T v H

/-! ### expressions by their text -/
section
variable {X : Cx} {w : Wd} {ρ : List SV} {μ : Mus} {R : SV → Mus → Prop} {a b c e : Expr} {es : List Expr} {pos p : Pos} {x : Str}
theorem DE.imp {R' : SV → Mus → Prop} (h : DE X w e ρ μ R') (k : ∀ r μ', R' r μ' → R r μ') : DE X w e ρ μ R := fun σ B H S I Q q => h σ B H S I Q fun v r B' H' μ' I' e' s' z => q v r B' H' μ' I' e' s' (k r μ' z)
theorem DT.imp {R R' : Bool → Mus → Prop} (h : DT X w e ρ μ R') (k : ∀ b μ', R' b μ' → R b μ') : DT X w e ρ μ R := fun σ B H S I Q q => h σ B H S I Q fun b B' H' μ' I' e' z => q b B' H' μ' I' e' (k b μ' z)
theorem de_name (i : Nat) {r : SV} (hr : ρ[i]? = some r) (h : R r μ) (hne : r ≠ .no := by exact nofun) (hN : X.N[i]? = some x := by rfl)
    (hv : Vis X.env.scope x := by first | exact Or.inl rfl | exact Or.inr (Or.inl rfl) | exact Or.inr (Or.inr rfl)) (hd : (x == ("__debug__" : Str)) = false := by decide)
    (hcd : (x == ("__classdict__" : Str)) = false := by decide) : DE X w (.Name x pos) ρ μ R := fun σ B H S I Q k => by
  rcases S.get i r hr with z | ⟨v, hs, q⟩
  · exact absurd z hne
  · exact tE_of (pe_var hN hv hd hcd) ⟨v, hs, k v r B H μ I (Ex.refl B) q h⟩
theorem de_int {i : Int} {j} (h : R (.dat (.int i)) μ) : DE X w (.Constant (.int i) j pos) ρ μ R := fun σ B H _ I Q k => tE_of pe_int (k (.int i) (.dat (.int i)) B H μ I (Ex.refl B) (Dq.int i) h)
theorem de_str {z : Str} {j} (h : R (.dat (.str z)) μ) : DE X w (.Constant (.str z) j pos) ρ μ R := fun σ B H _ I Q k => tE_of pe_str (k (.str z) (.dat (.str z)) B H μ I (Ex.refl B) (Dq.str z) h)
theorem de_bl {z : Bool} {j} (h : R (.dat (.bl z)) μ) : DE X w (.Constant (.bool z) j pos) ρ μ R := fun σ B H _ I Q k => tE_of pe_bl (k (.bl z) (.dat (.bl z)) B H μ I (Ex.refl B) (Dq.bl z) h)
theorem de_non {j} (h : R (.dat .non) μ) : DE X w (.Constant .none j pos) ρ μ R := fun σ B H _ I Q k => tE_of pe_non (k .non (.dat .non) B H μ I (Ex.refl B) Dq.non h)
/-- a module's whole number -/
theorem de_globI {i : Int} (hm : ∃ t, X.mg x = some (.int i t)) (h : R (.dat (.int i)) μ) (hg : Gl X x := by rfl) (hd : (x == ("__debug__" : Str)) = false := by decide) : DE X w (.Name x pos) ρ μ R := fun σ B H _ I Q k => by
  obtain ⟨t, hm⟩ := hm
  exact tE_of (pe_glob (v := .int i) hg hm ⟨t, rfl⟩ hd) (k (.int i) (.dat (.int i)) B H μ I (Ex.refl B) (Dq.int i) h)
theorem de_op {op : Operator} (ha : DE X w a ρ μ fun r μ1 => DE X w b ρ μ1 fun r' μ2 => OpD X w (binaryOp op) r r' μ2 R) : DE X w (.BinOp a op b pos) ρ μ R := fun σ B H S I Q k =>
  tE_of (pe_op (or_self (f := binaryOp op)) pe_self pe_self) (ha σ B H S I _ fun v r B1 H1 μ1 I1 e1 q1 h1 => h1 σ B1 H1 (S.mono e1) I1 _ fun u r' B2 H2 μ2 I2 e2 q2 h2 =>
    h2 B2 H2 v u I2 (q1.mono e2) q2 Q (k.mono (e1.trans e2)))
theorem de_un {op : UnaryOp} (ha : DE X w a ρ μ fun r μ1 => UnD X w (unaryOp op) r μ1 R) : DE X w (.UnaryOp op a pos) ρ μ R := fun σ B H S I Q k =>
  tE_of (pe_un (ur_self (f := unaryOp op)) pe_self) (ha σ B H S I _ fun v r B1 H1 μ1 I1 e1 q1 h1 => h1 B1 H1 v I1 q1 Q (k.mono e1))
theorem de_cmp {op : CmpOp} (ha : DE X w a ρ μ fun r μ1 => DE X w b ρ μ1 fun r' μ2 => OpD X w (compareOp op) r r' μ2 R) (hm : behindInMarks op b = false := by first | exact nomark _ | rfl) : DE X w (.Compare a [op] [b] pos) ρ μ R := fun σ B H S I Q k =>
  tE_of (pe_cmpR (or_self (f := compareOp op)) pe_self pe_self hm) (ha σ B H S I _ fun v r B1 H1 μ1 I1 e1 q1 h1 => h1 σ B1 H1 (S.mono e1) I1 _ fun u r' B2 H2 μ2 I2 e2 q2 h2 =>
    h2 B2 H2 v u I2 (q1.mono e2) q2 Q (k.mono (e1.trans e2)))
/-- a value that is a truth -/
def BoolR (r : SV) (k : Bool → Prop) : Prop := ∃ b, r = .dat (.bl b) ∧ k b
theorem de_chain {op op' : CmpOp} (ha : DE X w a ρ μ fun r μ1 => DE X w b ρ μ1 fun r' μ2 => OpD X w (compareOp op) r r' μ2 fun z μ3 => BoolR z fun t =>
      (t = true → DE X w c ρ μ3 fun r'' μ4 => OpD X w (compareOp op') r' r'' μ4 R) ∧ (t = false → R (.dat (.bl false)) μ3)) (hm : lastMarks [op, op'] [b, c] = false := by with_unfolding_all rfl) :
    DE X w (.Compare a [op, op'] [b, c] pos) ρ μ R := fun σ B H S I Q k => by
  refine tE_of (pe_chain (or_self (f := compareOp op)) (or_self (f := compareOp op')) pe_self pe_self pe_self hm) ?_
  refine ha σ B H S I _ fun v r B1 H1 μ1 I1 e1 q1 h1 => h1 σ B1 H1 (S.mono e1) I1 _ fun u r' B2 H2 μ2 I2 e2 q2 h2 => h2 B2 H2 v u I2 (q1.mono e2) q2 _ fun z rz B3 H3 μ3 I3 e3 q3 h3 => ?_
  obtain ⟨t, rfl, ht, hf⟩ := h3
  cases q3
  refine ⟨t, rfl, ?_⟩
  cases t with
  | true =>
    rw [if_pos rfl]
    exact ht rfl σ B3 H3 (S.mono (e1.trans (e2.trans e3))) I3 _ fun u4 r4 B4 H4 μ4 I4 e4 q4 h4 => h4 B4 H4 u u4 I4 (q2.mono (e3.trans e4)) q4 Q (k.mono (e1.trans (e2.trans (e3.trans e4))))
  | false =>
    rw [if_neg Bool.false_ne_true]
    exact k (.bl false) (.dat (.bl false)) B3 H3 μ3 I3 (e1.trans (e2.trans e3)) (Dq.bl false) (hf rfl)
theorem de_ix (ha : DE X w a ρ μ fun r μ1 => DE X w b ρ μ1 fun r' μ2 => IxD X w r r' μ2 R) (hs : PlainIx b := by exact fun _ _ => rfl) : DE X w (.Subscript a b pos) ρ μ R := fun σ B H S I Q k =>
  tE_of (pe_ix ix_self pe_self pe_self hs) (ha σ B H S I _ fun v r B1 H1 μ1 I1 e1 q1 h1 => h1 σ B1 H1 (S.mono e1) I1 _ fun u r' B2 H2 μ2 I2 e2 q2 h2 =>
    h2 B2 H2 v u I2 (q1.mono e2) q2 Q (k.mono (e1.trans e2)))
theorem dp_none {R : Option Int → Mus → Prop} (h : R none μ) : DP X w none ρ μ R := fun σ B H _ I Q k => tP_of po_none (k none B H μ I (Ex.refl B) h)
theorem dp_some {R : Option Int → Mus → Prop} (h : DE X w e ρ μ fun r μ1 => ∃ i, r = .dat (.int i) ∧ R (some i) μ1) : DP X w (some e) ρ μ R := fun σ B H S I Q k =>
  tP_of (po_some pe_self) (h σ B H S I _ fun v r B1 H1 μ1 I1 e1 q1 h1 => by
    obtain ⟨i, rfl, h1⟩ := h1
    cases q1
    exact ⟨i, rfl, k _ B1 H1 μ1 I1 e1 h1⟩)
theorem de_slice {lo hi : Option Expr} {p2 : Pos} (ha : DE X w a ρ μ fun r μ1 => DP X w lo ρ μ1 fun l μ2 => DP X w hi ρ μ2 fun u μ3 => SlD X w r l u μ3 R) : DE X w (.Subscript a (.Slice lo hi none p2) pos) ρ μ R := fun σ B H S I Q k =>
  tE_of (pe_slice sl_self pe_self po_self po_self) (ha σ B H S I _ fun v r B1 H1 μ1 I1 e1 q1 h1 => h1 σ B1 H1 (S.mono e1) I1 _ fun l B2 H2 μ2 I2 e2 h2 => h2 σ B2 H2 (S.mono (e1.trans e2)) I2 _ fun u B3 H3 μ3 I3 e3 h3 =>
    h3 B3 H3 v I3 (q1.mono (e2.trans e3)) Q (k.mono (e1.trans (e2.trans e3))))

theorem da_nil {R : List SV → Mus → Prop} (h : R [] μ) : DA X w [] ρ μ R := fun σ B H _ I Q k => tL_of pa_nil (k [] [] B H μ I (Ex.refl B) .nil h)
theorem da_cons {R : List SV → Mus → Prop} (ha : DE X w e ρ μ fun r μ1 => DA X w es ρ μ1 fun rs μ2 => R (r :: rs) μ2) (hs : starEach (e :: es) X.env = (false, eval e X.env) :: starEach es X.env := by rfl) : DA X w (e :: es) ρ μ R := fun σ B H S I Q k =>
  tL_of (pa_cons pe_self pa_self hs) (ha σ B H S I _ fun v r B1 H1 μ1 I1 e1 q1 h1 => h1 σ B1 H1 (S.mono e1) I1 _ fun vs rs B2 H2 μ2 I2 e2 q2 h2 => k _ _ B2 H2 μ2 I2 (e1.trans e2) (.cons (q1.mono e2) q2) h2)
/-- all are data -/
def undat : List SV → Option (List Dt)
  | [] => some []
  | .dat d :: rs => match undat rs with | some ds => some (d :: ds) | none => none
  | _ :: _ => none
theorem undat_q {B : Hp} : ∀ {vs : List V} {rs : List SV} {ds : List Dt}, SvA B vs rs → undat rs = some ds → DqA B vs ds
  | _, _, _, .nil, e => by cases e; exact .nil
  | _, _, _, .cons (r := r) (rs := rs) h q, e => by
    cases r with
    | no => cases e
    | «at» p => cases e
    | ty n => cases e
    | sc K a ns => cases e
    | tys ns => cases e
    | dat d =>
      unfold undat at e
      cases e2 : undat rs with
      | none => rw [e2] at e; cases e
      | some ds => rw [e2] at e; cases e; exact .cons h (undat_q q e2)
theorem small_ok {n : Nat} (h : n ≤ 1000) : n ≤ sizeLine := Nat.le_trans h (by decide)
theorem de_tup {x1} (h : DA X w es ρ μ fun rs μ1 => ∃ ds, undat rs = some ds ∧ ds.length ≤ 1000 ∧ R (.dat (.tup ds)) μ1) : DE X w (.Tuple es x1 pos) ρ μ R := fun σ B H S I Q k =>
  tE_of (pe_tup pa_self) (h σ B H S I _ fun vs rs B1 H1 μ1 I1 e1 q1 h1 => by
    obtain ⟨ds, e, hl, h1⟩ := h1
    have q := undat_q q1 e
    exact ⟨small_ok (by rw [q.length]; exact hl), fun p hp => k (.ref p) (.dat (.tup ds)) _ _ μ1 (I1.new hp _) (e1.trans (Ex.new (I1.free hp).1)) (Dq.tup upd_same (q.mono (Ex.new (I1.free hp).1))) h1⟩)
theorem de_lst (h : DA X w es ρ μ fun rs μ1 => ∃ ds, undat rs = some ds ∧ ds.length ≤ 1000 ∧ R (.dat (.lst ds)) μ1) : DE X w (.List es pos) ρ μ R := fun σ B H S I Q k =>
  tE_of (pe_lst pa_self) (h σ B H S I _ fun vs rs B1 H1 μ1 I1 e1 q1 h1 => by
    obtain ⟨ds, e, hl, h1⟩ := h1
    have q := undat_q q1 e
    exact ⟨small_ok (by rw [q.length]; exact hl), fun p hp => k (.ref p) (.dat (.lst ds)) _ _ μ1 (I1.new hp _) (e1.trans (Ex.new (I1.free hp).1)) (Dq.lst upd_same (q.mono (Ex.new (I1.free hp).1))) h1⟩)
/-- a list that will change -/
theorem de_lstM (h : DA X w es ρ μ fun rs μ1 => ∃ ds, undat rs = some ds ∧ ds.length ≤ 1000 ∧ ∀ p, μ1 p = none → w.H p = none → R (.at p) (μ1.put p (.lst ds))) : DE X w (.List es pos) ρ μ R := fun σ B H S I Q k =>
  tE_of (pe_lst pa_self) (h σ B H S I _ fun vs rs B1 H1 μ1 I1 e1 q1 h1 => by
    obtain ⟨ds, e, hl, h1⟩ := h1
    have q := undat_q q1 e
    exact ⟨small_ok (by rw [q.length]; exact hl), fun p hp => k (.ref p) (.at p) _ _ (μ1.put p (.lst ds)) (I1.newM hp _ ⟨vs, upd_same, q⟩) e1 rfl (h1 p (I1.free hp).2.1 (I1.free hp).2.2)⟩)
/-- a pot: a list of two whole numbers -/
theorem de_lstPot (h : DA X w es ρ μ fun rs μ1 => ∃ a b, rs = [.dat (.int a), .dat (.int b)] ∧ 0 ≤ a ∧ 0 ≤ b ∧ b < 4294967296 ∧ ∀ p, μ1 p = none → w.H p = none → R (.at p) (μ1.put p .pot)) : DE X w (.List es pos) ρ μ R := fun σ B H S I Q k =>
  tE_of (pe_lst pa_self) (h σ B H S I _ fun vs rs B1 H1 μ1 I1 e1 q1 h1 => by
    obtain ⟨a, b, rfl, ha, hb, hb2, h1⟩ := h1
    have q := undat_q (ds := [.int a, .int b]) q1 rfl
    have ev : vs = [.int a, .int b] := DqA.ints (ns := [a, b]) q
    subst ev
    exact ⟨by show 2 ≤ sizeLine; decide, fun p hp => k (.ref p) (.at p) _ _ (μ1.put p .pot) (I1.newM hp _ ⟨a, b, ha, hb, hb2, upd_same⟩) e1 rfl (h1 p (I1.free hp).2.1 (I1.free hp).2.2)⟩)

/-! ### tests -/
theorem dt_val {R : Bool → Mus → Prop} (h : DE X w e ρ μ fun r μ' => BoolR r fun b => R b μ') (he : ∀ whole, isTrue e X.env whole = (do let v ← whole; standAt e.pos; holding [v] (truthy v)) := by intro _; rfl) : DT X w e ρ μ R := fun σ B H S I Q k =>
  tT_of (pt_val pe_self he) (h σ B H S I _ fun v r B1 H1 μ1 I1 e1 q1 h1 => by
    obtain ⟨b, rfl, h1⟩ := h1
    cases q1
    exact ⟨b, rfl, k b B1 H1 μ1 I1 e1 h1⟩)
theorem dt_cmp {op : CmpOp} {R : Bool → Mus → Prop} (ha : DE X w a ρ μ fun r μ1 => DE X w b ρ μ1 fun r' μ2 => OpD X w (compareOp op) r r' μ2 fun z μ3 => BoolR z fun t => R t μ3) (hm : behindInMarks op b = false := by first | exact nomark _ | rfl) : DT X w (.Compare a [op] [b] pos) ρ μ R := fun σ B H S I Q k =>
  tT_of (pt_cmpR (or_self (f := compareOp op)) pe_self pe_self hm) (ha σ B H S I _ fun v r B1 H1 μ1 I1 e1 q1 h1 => h1 σ B1 H1 (S.mono e1) I1 _ fun u r' B2 H2 μ2 I2 e2 q2 h2 =>
    h2 B2 H2 v u I2 (q1.mono e2) q2 _ fun z rz B3 H3 μ3 I3 e3 q3 ⟨t, hz, h3⟩ => by
      subst hz
      cases q3
      exact ⟨t, rfl, k t B3 H3 μ3 I3 (e1.trans (e2.trans e3)) h3⟩)
theorem dt_chain {op op' : CmpOp} {R : Bool → Mus → Prop} (ha : DE X w a ρ μ fun r μ1 => DE X w b ρ μ1 fun r' μ2 => OpD X w (compareOp op) r r' μ2 fun z μ3 => BoolR z fun t =>
      (t = true → DE X w c ρ μ3 fun r'' μ4 => OpD X w (compareOp op') r' r'' μ4 fun z2 μ5 => BoolR z2 fun t2 => R t2 μ5) ∧ (t = false → R false μ3)) (hm : lastMarks [op, op'] [b, c] = false := by with_unfolding_all rfl) : DT X w (.Compare a [op, op'] [b, c] pos) ρ μ R := fun σ B H S I Q k => by
  refine tT_of (pt_chain (or_self (f := compareOp op)) (or_self (f := compareOp op')) pe_self pe_self pe_self hm) ?_
  refine ha σ B H S I _ fun v r B1 H1 μ1 I1 e1 q1 h1 => h1 σ B1 H1 (S.mono e1) I1 _ fun u r' B2 H2 μ2 I2 e2 q2 h2 => h2 B2 H2 v u I2 (q1.mono e2) q2 _ fun z rz B3 H3 μ3 I3 e3 q3 h3 => ?_
  obtain ⟨t, rfl, ht, hf⟩ := h3
  cases q3
  refine ⟨t, rfl, ?_⟩
  cases t with
  | true =>
    rw [if_pos rfl]
    refine ht rfl σ B3 H3 (S.mono (e1.trans (e2.trans e3))) I3 _ fun u4 r4 B4 H4 μ4 I4 e4 q4 h4 => h4 B4 H4 u u4 I4 (q2.mono (e3.trans e4)) q4 _ fun z2 rz2 B5 H5 μ5 I5 e5 q5 ⟨t2, hz, h5⟩ => ?_
    subst hz
    cases q5
    exact ⟨t2, rfl, k t2 B5 H5 μ5 I5 (e1.trans (e2.trans (e3.trans (e4.trans e5)))) h5⟩
  | false =>
    rw [if_neg Bool.false_ne_true]
    exact ⟨false, rfl, k false B3 H3 μ3 I3 (e1.trans (e2.trans e3)) (hf rfl)⟩
theorem dt_not {R : Bool → Mus → Prop} (h : DT X w e ρ μ fun b μ' => R (!b) μ') : DT X w (.UnaryOp .Not e pos) ρ μ R := fun σ B H S I Q k =>
  tT_of (pt_not pt_self) (h σ B H S I _ fun b B1 H1 μ1 I1 e1 h1 => k (!b) B1 H1 μ1 I1 e1 h1)
theorem dt_w {R : Bool → Mus → Prop} (h : DW X w e ρ μ R) : DT X w e ρ μ R := fun σ B H S I Q k => tT_of pw_self.pt (h σ B H S I Q k)
theorem dw_and1 {R : Bool → Mus → Prop} (h : DT X w e ρ μ R) : DW X w (.BoolOp .And [e] pos) ρ μ R := fun σ B H S I Q k => tW_of (pw_and1 pt_self) (h σ B H S I Q k)
theorem dw_or1 {R : Bool → Mus → Prop} (h : DT X w e ρ μ R) : DW X w (.BoolOp .Or [e] pos) ρ μ R := fun σ B H S I Q k => tW_of (pw_or1 pt_self) (h σ B H S I Q k)
theorem dw_and {R : Bool → Mus → Prop} (h : DT X w a ρ μ fun t μ1 => (t = true → DW X w (.BoolOp .And (b :: es) pos) ρ μ1 R) ∧ (t = false → R false μ1)) : DW X w (.BoolOp .And (a :: b :: es) pos) ρ μ R := fun σ B H S I Q k =>
  tW_of (pw_and pt_self pw_self) (h σ B H S I _ fun t B1 H1 μ1 I1 e1 h1 => by
    cases t with
    | true => rw [if_pos rfl]; exact h1.1 rfl σ B1 H1 (S.mono e1) I1 Q fun t2 B2 H2 μ2 I2 e2 => k t2 B2 H2 μ2 I2 (e1.trans e2)
    | false => rw [if_neg Bool.false_ne_true]; exact k false B1 H1 μ1 I1 e1 (h1.2 rfl))
theorem dw_or {R : Bool → Mus → Prop} (h : DT X w a ρ μ fun t μ1 => (t = true → R true μ1) ∧ (t = false → DW X w (.BoolOp .Or (b :: es) pos) ρ μ1 R)) : DW X w (.BoolOp .Or (a :: b :: es) pos) ρ μ R := fun σ B H S I Q k =>
  tW_of (pw_or pt_self pw_self) (h σ B H S I _ fun t B1 H1 μ1 I1 e1 h1 => by
    cases t with
    | true => rw [if_pos rfl]; exact k true B1 H1 μ1 I1 e1 (h1.1 rfl)
    | false => rw [if_neg Bool.false_ne_true]; exact h1.2 rfl σ B1 H1 (S.mono e1) I1 Q fun t2 B2 H2 μ2 I2 e2 => k t2 B2 H2 μ2 I2 (e1.trans e2))
theorem de_one {op} (h : DE X w e ρ μ R) : DE X w (.BoolOp op [e] pos) ρ μ R := fun σ B H S I Q k => tE_of (pe_one pe_self) (h σ B H S I Q k)
theorem de_and (h : DE X w a ρ μ fun r μ1 => BoolR r fun t => (t = true → DE X w (.BoolOp .And (b :: es) pos) ρ μ1 R) ∧ (t = false → R (.dat (.bl false)) μ1)) : DE X w (.BoolOp .And (a :: b :: es) pos) ρ μ R := fun σ B H S I Q k =>
  tE_of (pe_and pe_self pe_self) (h σ B H S I _ fun v r B1 H1 μ1 I1 e1 q1 h1 => by
    obtain ⟨t, rfl, h1⟩ := h1
    cases q1
    refine ⟨t, rfl, ?_⟩
    cases t with
    | true => rw [if_pos rfl]; exact h1.1 rfl σ B1 H1 (S.mono e1) I1 Q (k.mono e1)
    | false => rw [if_neg Bool.false_ne_true]; exact k (.bl false) (.dat (.bl false)) B1 H1 μ1 I1 e1 (Dq.bl false) (h1.2 rfl))
theorem de_or (h : DE X w a ρ μ fun r μ1 => BoolR r fun t => (t = true → R (.dat (.bl true)) μ1) ∧ (t = false → DE X w (.BoolOp .Or (b :: es) pos) ρ μ1 R)) : DE X w (.BoolOp .Or (a :: b :: es) pos) ρ μ R := fun σ B H S I Q k =>
  tE_of (pe_or pe_self pe_self) (h σ B H S I _ fun v r B1 H1 μ1 I1 e1 q1 h1 => by
    obtain ⟨t, rfl, h1⟩ := h1
    cases q1
    refine ⟨t, rfl, ?_⟩
    cases t with
    | true => rw [if_pos rfl]; exact k (.bl true) (.dat (.bl true)) B1 H1 μ1 I1 e1 (Dq.bl true) (h1.1 rfl)
    | false => rw [if_neg Bool.false_ne_true]; exact h1.2 rfl σ B1 H1 (S.mono e1) I1 Q (k.mono e1))
theorem de_not (h : DE X w e ρ μ fun r μ1 => BoolR r fun t => R (.dat (.bl (!t))) μ1) : DE X w (.UnaryOp .Not e pos) ρ μ R := fun σ B H S I Q k =>
  tE_of (pe_not pe_self) (h σ B H S I _ fun v r B1 H1 μ1 I1 e1 q1 h1 => by
    obtain ⟨t, rfl, h1⟩ := h1
    cases q1
    exact ⟨t, rfl, k (.bl (!t)) (.dat (.bl (!t))) B1 H1 μ1 I1 e1 (Dq.bl _) h1⟩)
theorem de_ifx (h : DT X w c ρ μ fun t μ1 => (t = true → DE X w a ρ μ1 R) ∧ (t = false → DE X w b ρ μ1 R)) : DE X w (.IfExp c a b pos) ρ μ R := fun σ B H S I Q k =>
  tE_of (pe_ifExp pt_self pe_self pe_self) (h σ B H S I _ fun t B1 H1 μ1 I1 e1 h1 => by
    cases t with
    | true => rw [if_pos rfl]; exact h1.1 rfl σ B1 H1 (S.mono e1) I1 Q (k.mono e1)
    | false => rw [if_neg Bool.false_ne_true]; exact h1.2 rfl σ B1 H1 (S.mono e1) I1 Q (k.mono e1))

/-! ### calls of built-ins -/
theorem de_callB {id : String} (ha : DA X w (e :: es) ρ μ fun rs μ1 => CaD X w (.builtin id) rs μ1 R) (hm : X.mg x = none) (hv : bootBuiltins x = some (.builtin id)) (hg : Gl X x := by rfl) (hn : x ≠ "__name__" := by decide) (hdb : (x == ("__debug__" : Str)) = false := by decide)
    (he : starEach (e :: es) X.env = (false, eval e X.env) :: starEach es X.env := by rfl) (hpl : (backTo pos (starEach es X.env)).any (·.1) = false := by rfl) : DE X w (.Call (.Name x p) (e :: es) [] pos) ρ μ R := fun σ B H S I Q k =>
  tE_of (pe_callB cr_self hg hm hv pa_self hn hdb he hpl) (ha σ B H S I _ fun vs rs B1 H1 μ1 I1 e1 q1 h1 => h1 B1 H1 vs I1 q1 Q (k.mono e1))
theorem de_callT {T : String} (ha : DA X w (e :: es) ρ μ fun rs μ1 => CaD X w (.type T) rs μ1 R) (hm : X.mg x = none) (hv : bootBuiltins x = some (.type T)) (hg : Gl X x := by rfl) (hn : x ≠ "__name__" := by decide) (hdb : (x == ("__debug__" : Str)) = false := by decide)
    (he : starEach (e :: es) X.env = (false, eval e X.env) :: starEach es X.env := by rfl) (hpl : (backTo pos (starEach es X.env)).any (·.1) = false := by rfl) : DE X w (.Call (.Name x p) (e :: es) [] pos) ρ μ R := fun σ B H S I Q k =>
  tE_of (pe_callTy cr_self hg hm hv pa_self hn hdb he hpl) (ha σ B H S I _ fun vs rs B1 H1 μ1 I1 e1 q1 h1 => h1 B1 H1 vs I1 q1 Q (k.mono e1))
/-- a built-in class as a value: isinstance(x, int) -/
theorem de_bm {T id : String} {name : Str} {o : Expr} {apos cpos : Pos} (ho : DE X w o ρ μ fun r μ1 => TyD X.K T r μ1 ∧ DA X w (e :: es) ρ μ1 fun rs μ2 => MtD X w id r rs μ2 R) (pa : PlainAttrs T) (slot : Slot T name id) (hty : typeOf (.builtin id) = pure (.type "method_descriptor"))
    (hbase : attributeBase o name X.env (eval o X.env) = eval o X.env := by rfl)
    (hfew : ((backTo cpos (starEach (e :: es) X.env)).all (fun x => !x.1) && (backToKw cpos (keywordEach [] X.env)).all (fun x => x.1.isSome)
      && decide ((e :: es).length + ([] : List Keyword).length + (if ([] : List Keyword).isEmpty then 0 else 1) < 30)) = true := by rfl)
    (hline : (apos.endLine == cpos.line) = true := by rfl) (hs : starEach (e :: es) X.env = (false, eval e X.env) :: starEach es X.env := by rfl) (hplain : (backTo cpos (starEach es X.env)).any (·.1) = false := by rfl) :
    DE X w (.Call (.Attribute o name apos) (e :: es) [] cpos) ρ μ R := fun σ B H S I Q k =>
  tE_of (pe_bm pa slot hty mr_self pe_self pa_self hbase hfew hline hs hplain) (ho σ B H S I _ fun v r B1 H1 μ1 I1 e1 q1 h1 => ⟨h1.1 w B1 H1 v I1 q1, h1.2 σ B1 H1 (S.mono e1) I1 _ fun vs rs B2 H2 μ2 I2 e2 q2 h2 => h2 B2 H2 v vs I2 (q1.mono e2) q2 Q (k.mono (e1.trans e2))⟩)
end
end Dat

set_option Elab.async false
set_option linter.all false
set_option maxRecDepth 100000
set_option maxHeartbeats 4000000
/-! Dat2: statements, loops, comprehensions, the program's own defs. -/
namespace Dat
open PySem PySem.Spec PyProof.Rows L2

/-! ### statements -/
structure Po where
  nx : List SV → Mus → Prop
  rt : SV → Mus → Prop
  bk : List SV → Mus → Prop := fun _ _ => False
  ct : List SV → Mus → Prop := fun _ _ => False
structure EndsOk (w : Wd) (B0 : Hp) (P : Po) (D : Ends) : Prop where
  nx : ∀ σ B H ρ μ, Sto B σ ρ → SInv w B H μ → Ex B0 B → P.nx ρ μ → D.nx σ H
  rt : ∀ v r B H μ, SInv w B H μ → Ex B0 B → Svq B v r → P.rt r μ → D.rt v H
  bk : ∀ σ B H ρ μ, Sto B σ ρ → SInv w B H μ → Ex B0 B → P.bk ρ μ → D.bk σ H
  ct : ∀ σ B H ρ μ, Sto B σ ρ → SInv w B H μ → Ex B0 B → P.ct ρ μ → D.ct σ H
theorem EndsOk.mono {w : Wd} {B0 B1 : Hp} {P : Po} {D : Ends} (E : EndsOk w B0 P D) (e : Ex B0 B1) : EndsOk w B1 P D :=
  ⟨fun σ B H ρ μ S I x => E.nx σ B H ρ μ S I (e.trans x), fun v r B H μ I x => E.rt v r B H μ I (e.trans x), fun σ B H ρ μ S I x => E.bk σ B H ρ μ S I (e.trans x), fun σ B H ρ μ S I x => E.ct σ B H ρ μ S I (e.trans x)⟩
def DS (X : Cx) (w : Wd) (st : Stmt) (ρ : List SV) (μ : Mus) (P : Po) : Prop :=
  ∀ σ B H, Sto B σ ρ → SInv w B H μ → ∀ D, EndsOk w B P D → tS X st D σ H
def DSs (X : Cx) (w : Wd) (sts : List Stmt) (ρ : List SV) (μ : Mus) (P : Po) : Prop :=
  ∀ σ B H, Sto B σ ρ → SInv w B H μ → ∀ D, EndsOk w B P D → tB_ X sts D σ H
/-- what a loop walks -/
structure WkD (J : It) (B : Hp) (items : List Dt) : Prop where
  goes : ∀ i H, i < items.length → Ex B H → J.go i H
  stops : ∀ H, Ex B H → J.stop items.length H
  yields : ∀ i H x H', i < items.length → Ex B H → J.yld i H x H' → ∃ d, items[i]? = some d ∧ ((H' = H ∧ Dq B x d) ∨ ∃ T xs ds, x = .ref T ∧ H T = none ∧ H' = upd H T (.tup xs) ∧ DqA B xs ds ∧ d = .tup ds)
def DI (X : Cx) (w : Wd) (tg e : Expr) (ρ : List SV) (μ : Mus) (R : List Dt → Mus → Prop) : Prop :=
  ∀ σ B H, Sto B σ ρ → SInv w B H μ → ∀ RR : It → Hp → Prop, (∀ J items B' H' μ', SInv w B' H' μ' → Ex B B' → WkD J B' items → R items μ' → RR J H') → tI X tg e σ H RR

section
variable {X : Cx} {w : Wd} {ρ : List SV} {μ : Mus} {P : Po} {e c tg : Expr} {st : Stmt} {sts a b : List Stmt} {pos p pos' : Pos} {x : Str}
theorem dss_nil (h : P.nx ρ μ) : DSs X w [] ρ μ P := fun σ B H S I D E => tB_of pss_nil (E.nx σ B H ρ μ S I (Ex.refl B) h)
theorem dss_cons (h : DS X w st ρ μ { P with nx := fun ρ' μ' => DSs X w sts ρ' μ' P }) : DSs X w (st :: sts) ρ μ P := fun σ B H S I D E =>
  tB_of (pss_cons ps_self pss_self) (h σ B H S I _ ⟨fun σ1 B1 H1 ρ1 μ1 S1 I1 e1 h1 => h1 σ1 B1 H1 S1 I1 D (E.mono e1), E.rt, E.bk, E.ct⟩)
theorem dss_one (h : DS X w st ρ μ P) : DSs X w [st] ρ μ P := fun σ B H S I D E => tB_of (pss_one ps_self) (h σ B H S I D E)
theorem ds_pass (h : P.nx ρ μ) : DS X w (.Pass pos) ρ μ P := fun σ B H S I D E => tS_of ps_pass (E.nx σ B H ρ μ S I (Ex.refl B) h)
theorem ds_break (h : P.bk ρ μ) : DS X w (.Break pos) ρ μ P := fun σ B H S I D E => tS_of ps_break (E.bk σ B H ρ μ S I (Ex.refl B) h)
theorem ds_continue (h : P.ct ρ μ) : DS X w (.Continue pos) ρ μ P := fun σ B H S I D E => tS_of ps_continue (E.ct σ B H ρ μ S I (Ex.refl B) h)
theorem ds_doc {z : Str} {j} (h : P.nx ρ μ) : DS X w (.Expr (.Constant (.str z) j pos) pos') ρ μ P := fun σ B H S I D E => tS_of ps_doc (E.nx σ B H ρ μ S I (Ex.refl B) h)
theorem ds_expr (h : DE X w e ρ μ fun _ μ' => P.nx ρ μ') (hs : swapsWith e none pos.line X.env = pure false := by rfl) : DS X w (.Expr e pos) ρ μ P := fun σ B H S I D E =>
  tS_of (ps_expr pe_self hs) (h σ B H S I _ fun v r B1 H1 μ1 I1 e1 q1 h1 => E.nx σ B1 H1 ρ μ1 (S.mono e1) I1 e1 h1)
theorem ds_ret (h : DE X w e ρ μ fun r μ' => P.rt r μ') : DS X w (.Return (some e) pos) ρ μ P := fun σ B H S I D E =>
  tS_of (ps_ret pe_self) (h σ B H S I _ fun v r B1 H1 μ1 I1 e1 q1 h1 => E.rt v r B1 H1 μ1 I1 e1 q1 h1)
/-- return of an own list, that becomes data -/
theorem ds_retL (h : DE X w e ρ μ fun r μ' => ∃ q ds ν, r = .at q ∧ μ' q = some (.lst ds) ∧ w.H q = none ∧ ν.Sub μ' ∧ ν q = none ∧ P.rt (.dat (.lst ds)) ν) : DS X w (.Return (some e) pos) ρ μ P := fun σ B H S I D E =>
  tS_of (ps_ret pe_self) (h σ B H S I _ fun v r B1 H1 μ1 I1 e1 q1 h1 => by
    obtain ⟨q, ds, ν, rfl, hm, hw, hs, hn, h1⟩ := h1
    obtain ⟨B2, I2, e2, q2⟩ := I1.freeze hm hw hs hn
    cases (show v = V.ref q from q1)
    exact E.rt _ (.dat (.lst ds)) B2 H1 ν I2 (e1.trans e2) q2 h1)
theorem ds_retN (h : P.rt (.dat .non) μ) : DS X w (.Return none pos) ρ μ P := fun σ B H S I D E =>
  tS_of ps_retN (E.rt .non (.dat .non) B H μ I (Ex.refl B) Dq.non h)
theorem ds_if (h : DT X w c ρ μ fun t μ1 => (t = true → DSs X w a ρ μ1 P) ∧ (t = false → DSs X w b ρ μ1 P)) : DS X w (.If c a b pos) ρ μ P := fun σ B H S I D E =>
  tS_of (ps_if pt_self pss_self pss_self) (h σ B H S I _ fun t B1 H1 μ1 I1 e1 h1 => by
    cases t with
    | true => rw [if_pos rfl]; exact h1.1 rfl σ B1 H1 (S.mono e1) I1 D (E.mono e1)
    | false => rw [if_neg Bool.false_ne_true]; exact h1.2 rfl σ B1 H1 (S.mono e1) I1 D (E.mono e1))
theorem ds_set (i : Nat) (hN : X.N.Nodup) (h : DE X w e ρ μ fun r μ' => P.nx (ρ.set i r) μ') (hi : X.N[i]? = some x := by rfl) (hx : Loc X.env.scope x := by first | exact Or.inl rfl | exact Or.inr rfl) (hs : swapsWith e (some (.Name x pos')) pos.line X.env = pure false := by rfl)
    (hf : X.fn x = true ∨ X.env.scope.names.lookup x = some .local := by first | exact .inl rfl | exact .inr rfl) : DS X w (.Assign [.Name x pos'] e pos) ρ μ P := fun σ B H S I D E =>
  tS_of (ps_set hN hi hx pe_self hs hf) (h σ B H S I _ fun v r B1 H1 μ1 I1 e1 q1 h1 => E.nx _ B1 H1 _ μ1 ((S.mono e1).set i q1) I1 e1 h1)
theorem ds_asg (h : DE X w e ρ μ fun r μ' => DG X w tg r ρ μ' P.nx) (hs : swapsWithSole [tg] e pos.line X.env = pure false := by rfl) (hw : swappedStores [tg] e X.env = pure none := by rfl)
    (h1 : (assignEach [tg] X.env).map (·.2) = [assign tg X.env] := by rfl) : DS X w (.Assign [tg] e pos) ρ μ P := fun σ B H S I D E =>
  tS_of (ps_asg pe_self pg_self hs hw h1) (h σ B H S I _ fun v r B1 H1 μ1 I1 e1 q1 g => g σ B1 H1 v (S.mono e1) I1 q1 _ fun σ2 B2 H2 ρ2 μ2 S2 I2 e2 k2 => E.nx σ2 B2 H2 ρ2 μ2 S2 I2 (e1.trans e2) k2)
theorem ds_par (i j : Nat) {y : Str} {e1 e2 : Expr} {px py pt : Pos} {kt k2 pt2} (hc : X.calm = true) (hN : X.N.Nodup) (h : DA X w [e1, e2] ρ μ fun rs μ' => ∃ r s, rs = [r, s] ∧ P.nx ((ρ.set i r).set j s) μ') (hi : X.N[i]? = some x := by rfl) (hj : X.N[j]? = some y := by rfl) (hij : i ≠ j := by decide)
    (hx : X.env.scope.names.lookup x = some .local := by rfl) (hy : X.env.scope.names.lookup y = some .local := by rfl)
    (hw : swappedStores [.Tuple [.Name x px, .Name y py] kt pt] (.Tuple [e1, e2] k2 pt2) X.env = pure (some [x, y]) := by rfl)
    (hs : swapsWithSole [.Tuple [.Name x px, .Name y py] kt pt] (.Tuple [e1, e2] k2 pt2) pos.line X.env = pure false := by rfl) :
    DS X w (.Assign [.Tuple [.Name x px, .Name y py] kt pt] (.Tuple [e1, e2] k2 pt2) pos) ρ μ P := fun σ B H S I D E =>
  tS_of (ps_par hc hN hi hj hij hx hy pa_self hw hs) (h σ B H S I _ fun vs rs B1 H1 μ1 I1 ex q1 h1 => by
    obtain ⟨r, s, rfl, h1⟩ := h1
    cases q1 with
    | cons p q => cases q with
      | cons p' q' => cases q'; exact ⟨_, _, rfl, E.nx _ B1 H1 _ μ1 (((S.mono ex).set i p).set j p') I1 ex h1⟩)
theorem ds_while {body : List Stmt} (J : Nat → List SV → Mus → Prop) (n : Nat) (h0 : J n ρ μ) (hp : PassesOwn (model X.prog X.w) X.A X.env X.xe)
    (h : ∀ n ρ1 μ1, J n ρ1 μ1 → DT X w c ρ1 μ1 fun t μ2 => (t = true → DSs X w body ρ1 μ2 { nx := fun ρ' μ' => ∃ m, m < n ∧ J m ρ' μ', ct := fun ρ' μ' => ∃ m, m < n ∧ J m ρ' μ', bk := P.nx, rt := P.rt }) ∧ (t = false → P.nx ρ1 μ2)) :
    DS X w (.While c body [] pos) ρ μ P := fun σ B H S I D E => by
  refine tS_of (ps_while hp pt_self pss_self) ⟨fun m σ H => ∃ B1 ρ μ, Sto B1 σ ρ ∧ SInv w B1 H μ ∧ Ex B B1 ∧ J m ρ μ, ⟨n, B, ρ, μ, S, I, Ex.refl B, h0⟩, ?_⟩
  rintro m σ1 H1 ⟨B1, ρ1, μ1, S1, I1, g1, J1⟩
  refine h m ρ1 μ1 J1 σ1 B1 H1 S1 I1 _ fun t B2 H2 μ2 I2 e2 h2 => ?_
  cases t with
  | true =>
    rw [if_pos rfl]
    exact ⟨fun σ' H' => ∃ m', m' < m ∧ ∃ B1 ρ μ, Sto B1 σ' ρ ∧ SInv w B1 H' μ ∧ Ex B B1 ∧ J m' ρ μ, fun _ _ z => z, h2.1 rfl σ1 B2 H2 (S1.mono e2) I2 _
      ⟨fun σ3 B3 H3 ρ3 μ3 S3 I3 g3 ⟨m', hl, j⟩ => ⟨m', hl, B3, ρ3, μ3, S3, I3, g1.trans (e2.trans g3), j⟩, fun v r B3 H3 μ3 I3 g3 => E.rt v r B3 H3 μ3 I3 (g1.trans (e2.trans g3)), fun σ3 B3 H3 ρ3 μ3 S3 I3 g3 k => E.nx σ3 B3 H3 ρ3 μ3 S3 I3 (g1.trans (e2.trans g3)) k,
        fun σ3 B3 H3 ρ3 μ3 S3 I3 g3 ⟨m', hl, j⟩ => ⟨m', hl, B3, ρ3, μ3, S3, I3, g1.trans (e2.trans g3), j⟩⟩⟩
  | false =>
    rw [if_neg Bool.false_ne_true]
    exact E.nx σ1 B2 H2 ρ1 μ2 (S1.mono e2) I2 (g1.trans e2) (h2.2 rfl)

/-! ### what is walked -/
theorem di_lst {R : List Dt → Mus → Prop} (h : DE X w e ρ μ fun r μ' => ∃ ds, r = .dat (.lst ds) ∧ R ds μ') : DI X w tg e ρ μ R := fun σ B H S I RR k =>
  tI_of (pi_list pe_self) (h σ B H S I _ fun v r B1 H1 μ1 I1 e1 q1 h1 => by
    obtain ⟨ds, rfl, h1⟩ := h1
    cases q1 with
    | @lst a xs _ ha hx =>
      have sq : ∀ H, Ex B1 H → SqL X.K H a xs := fun H e => .inl (.inl (e _ _ ha))
      refine ⟨a, rfl, ⟨xs, sq H1 I1.bh⟩, k (Itl X.K a) ds B1 H1 μ1 I1 e1 ⟨fun i H hi e => ?_, fun H e => ?_, fun i H x H' hi e y => ?_⟩ h1⟩
      · exact walk_list.goes i H (by rw [hx.length]; exact hi) (sq H e)
      · have z := (walk_list (K := X.K) (a := a) (xs := xs)).stops H (sq H e)
        rw [hx.length] at z; exact z
      · obtain ⟨e1, e2⟩ := walk_list.yields i H x H' (by rw [hx.length]; exact hi) (sq H e) y
        obtain ⟨d, h1, h2⟩ := hx.getV e2
        exact ⟨d, h1, .inl ⟨e1, h2⟩⟩)
theorem di_tup {R : List Dt → Mus → Prop} (h : DE X w e ρ μ fun r μ' => ∃ ds, r = .dat (.tup ds) ∧ R ds μ') : DI X w tg e ρ μ R := fun σ B H S I RR k =>
  tI_of (pi_tup pe_self) (h σ B H S I _ fun v r B1 H1 μ1 I1 e1 q1 h1 => by
    obtain ⟨ds, rfl, h1⟩ := h1
    cases q1 with
    | @tup a xs _ ha hx =>
      have sq : ∀ H, Ex B1 H → SqT X.K H a xs := fun H e => .inl (.inl (e _ _ ha))
      refine ⟨a, rfl, ⟨xs, sq H1 I1.bh⟩, k (Itt X.K a) ds B1 H1 μ1 I1 e1 ⟨fun i H hi e => ?_, fun H e => ?_, fun i H x H' hi e y => ?_⟩ h1⟩
      · exact walk_tup.goes i H (by rw [hx.length]; exact hi) (sq H e)
      · have z := (walk_tup (K := X.K) (a := a) (xs := xs)).stops H (sq H e)
        rw [hx.length] at z; exact z
      · obtain ⟨e1, e2⟩ := walk_tup.yields i H x H' (by rw [hx.length]; exact hi) (sq H e) y
        obtain ⟨d, h1, h2⟩ := hx.getV e2
        exact ⟨d, h1, .inl ⟨e1, h2⟩⟩)
def signs (z : Str) : List Dt := z.cps.toList.map fun c => .str ⟨#[c]⟩
theorem di_str {R : List Dt → Mus → Prop} (h : DE X w e ρ μ fun r μ' => ∃ z, r = .dat (.str z) ∧ R (signs z) μ') : DI X w tg e ρ μ R := fun σ B H S I RR k =>
  tI_of (pi_str pe_self) (h σ B H S I _ fun v r B1 H1 μ1 I1 e1 q1 h1 => by
    obtain ⟨z, rfl, h1⟩ := h1
    cases q1
    have hz : (signs z).length = z.cps.size := by simp [signs]
    refine ⟨z, rfl, k (Its z) (signs z) B1 H1 μ1 I1 e1 ⟨fun i H hi e => ?_, fun H e => ?_, fun i H x H' hi e y => ?_⟩ h1⟩
    · show i < z.cps.size; rw [← hz]; exact hi
    · show z.cps.size ≤ (signs z).length; rw [hz]; exact Nat.le_refl _
    · obtain ⟨e1, c, e2, e3⟩ := y
      subst e3
      exact ⟨.str ⟨#[c]⟩, by unfold signs; rw [List.getElem?_map, Array.getElem?_toList, e2]; rfl, .inl ⟨e1, .str _⟩⟩)
def upto (lo : Int) (n : Nat) : List Dt := (List.range n).map fun (k : Nat) => .int (lo + k)
theorem di_range1 {R : List Dt → Mus → Prop} (h : DA X w [e] ρ μ fun rs μ' => ∃ n : Int, rs = [.dat (.int n)] ∧ -(2 ^ 62) ≤ n ∧ n < 2 ^ 62 ∧ R (upto 0 n.toNat) μ') (hm : X.mg "range" = none) (hg : Gl X "range" := by rfl) (hs : starEach [e] X.env = [(false, eval e X.env)] := by rfl) :
    DI X w tg (.Call (.Name "range" p) [e] [] pos) ρ μ R := fun σ B H S I RR k =>
  tI_of (pi_range1 hg hm pa_self hs) (h σ B H S I _ fun vs rs B1 H1 μ1 I1 e1 q1 h1 => by
    obtain ⟨n, rfl, h2, h3, h1⟩ := h1
    have ev := DqA.ints (ns := [n]) (undat_q (ds := [.int n]) q1 rfl)
    subst ev
    have hz : (upto 0 n.toNat).length = n.toNat := by simp [upto]
    refine ⟨n, rfl, h2, h3, k (Itr 0 n.toNat) (upto 0 n.toNat) B1 H1 μ1 I1 e1 ⟨fun i H hi e => ?_, fun H e => ?_, fun i H x H' hi e y => ?_⟩ h1⟩
    · show i < n.toNat; rw [← hz]; exact hi
    · show n.toNat ≤ (upto 0 n.toNat).length; rw [hz]; exact Nat.le_refl _
    · obtain ⟨e1, e2⟩ := y
      subst e2
      exact ⟨.int (0 + (i : Nat)), by unfold upto; rw [List.getElem?_map, List.getElem?_range (by rw [← hz]; exact hi)]; rfl, .inl ⟨e1, .int _⟩⟩)

theorem ds_for {body : List Stmt} (h : DI X w tg e ρ μ fun items μ1 => ∃ J : Nat → List SV → Mus → Prop, J 0 ρ μ1 ∧
      (∀ n d ρ' μ', items[n]? = some d → J n ρ' μ' → DG X w tg (.dat d) ρ' μ' fun ρ2 μ2 => DSs X w body ρ2 μ2 { nx := J (n + 1), ct := J (n + 1), bk := P.nx, rt := P.rt }) ∧ ∀ ρ' μ', J items.length ρ' μ' → P.nx ρ' μ')
    (hp : PassesOwn (model X.prog X.w) X.A X.env X.xe) (hc : X.calm = true) (hf : ∀ z, foldedSetIterable e X.env z = pure z := by intro _; rfl) : DS X w (.For tg e body [] pos) ρ μ P := fun σ B H S I D E => by
  refine tS_of (ps_for hp hc pi_self pg_self pss_self hf) (h σ B H S I _ fun J items B1 H1 μ1 I1 e1 W h1 => ?_)
  obtain ⟨V, v0, turn, fin⟩ := h1
  let Y : Nat → Hp → L2.V → Hp → Prop := fun i H x H' => ∃ d, items[i]? = some d ∧ ((H' = H ∧ Dq B1 x d) ∨ ∃ T xs ds, x = .ref T ∧ H T = none ∧ H' = upd H T (.tup xs) ∧ DqA B1 xs ds ∧ d = .tup ds)
  have wk : Walk J items.length (fun H => Ex B1 H) Y := ⟨fun i H hi g => W.goes i H hi g, W.stops, W.yields⟩
  refine for_it wk (fun i σ H => ∃ B ρ μ, Sto B σ ρ ∧ SInv w B H μ ∧ Ex B1 B ∧ V i ρ μ) ⟨B1, ρ, μ1, S.mono e1, I1, Ex.refl _, v0⟩ (fun i σ H _ ⟨B, ρ, μ, _, I, g, _⟩ => g.trans I.bh) ?_ ?_
  · rintro i x σ2 H2 H3 hi ⟨B2, ρ2, μ2, S2, I2, g2, v2⟩ ⟨d, hd, hy⟩
    have fin2 : ∀ B3, Sto B3 σ2 ρ2 → SInv w B3 H3 μ2 → Ex B1 B3 → Dq B3 x d → tG X tg x σ2 H3 fun σ4 H4 => tB_ X body { D with nx := fun σ H => ∃ B ρ μ, Sto B σ ρ ∧ SInv w B H μ ∧ Ex B1 B ∧ V (i + 1) ρ μ, ct := fun σ H => ∃ B ρ μ, Sto B σ ρ ∧ SInv w B H μ ∧ Ex B1 B ∧ V (i + 1) ρ μ, bk := D.nx } σ4 H4 := fun B3 S3 I3 g3 q3 => by
      refine turn i d ρ2 μ2 hd v2 σ2 B3 H3 x S3 I3 q3 _ fun σ4 B4 H4 ρ4 μ4 S4 I4 e4 h4 => ?_
      exact h4 σ4 B4 H4 S4 I4 _ ⟨fun σ5 B5 H5 ρ5 μ5 S5 I5 e5 v5 => ⟨B5, ρ5, μ5, S5, I5, g3.trans (e4.trans e5), v5⟩, fun v r B5 H5 μ5 I5 e5 => E.rt v r B5 H5 μ5 I5 (e1.trans (g3.trans (e4.trans e5))),
        fun σ5 B5 H5 ρ5 μ5 S5 I5 e5 v5 => E.nx σ5 B5 H5 ρ5 μ5 S5 I5 (e1.trans (g3.trans (e4.trans e5))) v5, fun σ5 B5 H5 ρ5 μ5 S5 I5 e5 v5 => ⟨B5, ρ5, μ5, S5, I5, g3.trans (e4.trans e5), v5⟩⟩
    rcases hy with ⟨rfl, q⟩ | ⟨T, xs, ds, rfl, hT, rfl, q, rfl⟩
    · exact fin2 B2 S2 I2 g2 (q.mono g2)
    · have hb := (I2.free hT).1
      exact fin2 (upd B2 T (.tup xs)) (S2.mono (Ex.new hb)) (I2.new hT _) (g2.trans (Ex.new hb)) (.tup upd_same ((q.mono g2).mono (Ex.new hb)))
  · rintro σ2 H2 ⟨B2, ρ2, μ2, S2, I2, g2, v2⟩
    exact E.nx σ2 B2 H2 ρ2 μ2 S2 I2 (e1.trans g2) (fin ρ2 μ2 v2)
end
end Dat

set_option Elab.async false
set_option linter.all false
set_option maxRecDepth 100000
set_option maxHeartbeats 4000000
/-! Dat3: comprehensions; targets; the program's own defs. -/
namespace Dat
open PySem PySem.Spec PyProof.Rows L2

/-! ### an own object that nobody tells -/
section
variable {w : Wd} {B H : Hp} {μ : Mus} {p : Addr}
theorem SInv.own (I : SInv w B H μ) (hb : B p = none) (hw : w.H p = none) (hm : μ p = none) (o : HO) : SInv w B (upd H p o) μ := by
  refine ⟨I.b0, I.bh.mut hb, fun q u hM hq => ?_, fun q hq => ?_, I.out, fun q u hq => ?_⟩
  · rw [upd_ne (fun z => by rw [z, hw] at hq; cases hq)]; exact I.keep q u hM hq
  · by_cases e : q = p
    · rw [e, upd_same]; exact nofun
    · rw [upd_ne e]; exact I.there q hq
  · have e : q ≠ p := fun z => by rw [z, hm] at hq; cases hq
    obtain ⟨h1, h2, h3⟩ := I.mus q u hq
    exact ⟨h1, h2.mono (Ex.refl B) (upd_ne e), h3⟩
theorem SInv.told (I : SInv w B H μ) (hb : B p = none) (hw : w.H p = none) (hm : μ p = none) {o : HO} (ho : H p = some o) : SInv w (upd B p o) H μ := by
  refine ⟨I.b0.mut (I.b0.none hb), fun q u hq => ?_, I.keep, I.there, fun q hq hB => ?_, fun q u hq => ?_⟩
  · by_cases e : q = p
    · rw [e, upd_same] at hq; cases hq; rw [e]; exact ho
    · rw [upd_ne e] at hq; exact I.bh q u hq
  · rw [upd_ne (fun e => hq (by rw [e]; exact hw))]; exact I.out q hq hB
  · have e : q ≠ p := fun z => by rw [z, hm] at hq; cases hq
    obtain ⟨h1, h2, h3⟩ := I.mus q u hq
    exact ⟨by rw [upd_ne e]; exact h1, h2.mono (Ex.new hb) rfl, h3⟩
end

/-! ### comprehensions -/
/-- the context of a comprehension's block -/
abbrev Bk := Shared × Hp × Addr × List (Str × Addr) × List Addr
abbrev BX (X : Cx) (scope : Scope) (k : Bk) : Cx := X.blk k.1 k.2.1 scope (compEnvC scope k.2.2.2.1 k.2.2.1 X.env) k.2.2.2.2
def tQ (X : Cx) (ifs : List Expr) : TT := fun σ H Q => ∀ pins s, Inv X pins σ H s →
  wpAny (model X.prog X.w) X.A (forIn ifs true fun c r => if r = true then do let ok ← isTrue c X.env (eval c X.env); pure (ForInStep.yield ok) else pure (ForInStep.yield r)) (TP X pins σ Q) X.xe s
theorem pts_self {X : Cx} {ifs : List Expr} : PTs X ifs (tQ X ifs) := ⟨fun pins s _ _ _ I h => h pins s I⟩
theorem tQ_of {X : Cx} {ifs : List Expr} {t : TT} {σ : L2.St} {H : Hp} {Q : Bool → Hp → Prop} (h : PTs X ifs t) (q : t σ H Q) : tQ X ifs σ H Q := fun pins s I => h.run pins s σ H Q I q
def DQ (X : Cx) (w : Wd) (ifs : List Expr) (ρ : List SV) (μ : Mus) (R : Bool → Mus → Prop) : Prop :=
  ∀ σ B H, Sto B σ ρ → SInv w B H μ → ∀ Q : Bool → Hp → Prop, (∀ b B' H' μ', SInv w B' H' μ' → Ex B B' → R b μ' → Q b H') → tQ X ifs σ H Q
theorem dq_nil {X : Cx} {w : Wd} {ρ : List SV} {μ : Mus} {R : Bool → Mus → Prop} (h : R true μ) : DQ X w [] ρ μ R := fun σ B H S I Q k => tQ_of pts_nil (k true B H μ I (Ex.refl B) h)
theorem dq_one {X : Cx} {w : Wd} {ρ : List SV} {μ : Mus} {R : Bool → Mus → Prop} {c : Expr} (h : DT X w c ρ μ R) : DQ X w [c] ρ μ R := fun σ B H S I Q k => tQ_of (pts_one pt_self) (h σ B H S I Q k)

section
variable {X : Cx} {w : Wd} {ρ : List SV} {μ : Mus} {elt tg iter : Expr} {ifs : List Expr} {scope : Scope} {pos px : Pos} {x y : Str}
/-- what an element's turn is to do -/
def LcTurn (X : Cx) (scope : Scope) (elt : Expr) (ifs : List Expr) (ρ : List SV) (j : Nat) (J : Nat → List Dt → Mus → Prop) (n : Nat) (acc : List Dt) (d : Dt) (μ : Mus) : Prop :=
  ∀ w' k, DQ (BX X scope k) w' ifs (ρ.set j (.dat d)) μ fun b μ3 => (b = true → ∀ kc, DE (BX X scope kc) w' elt (ρ.set j (.dat d)) μ3 fun r μ4 => ∃ d', r = .dat d' ∧ J (n + 1) (acc ++ [d']) μ4) ∧ (b = false → J (n + 1) acc μ3)
def LcAsk (X : Cx) (scope : Scope) (elt : Expr) (ifs : List Expr) (ρ : List SV) (j : Nat) (R : SV → Mus → Prop) (items : List Dt) (μ1 : Mus) : Prop :=
  items.length ≤ 100000 ∧ ∃ J : Nat → List Dt → Mus → Prop, J 0 [] μ1 ∧ (∀ n acc d μ2, items[n]? = some d → acc.length ≤ n → J n acc μ2 → LcTurn X scope elt ifs ρ j J n acc d μ2) ∧
    ∀ acc μ', J items.length acc μ' → acc.length ≤ items.length → R (.dat (.lst acc)) μ'
def gE (X : Cx) (scope : Scope) (elt : Expr) : TE := fun σ H Q => ∀ k : Bk, tE (BX X scope k) elt σ H Q
def gQ (X : Cx) (scope : Scope) (ifs : List Expr) : TT := fun σ H Q => ∀ k : Bk, tQ (BX X scope k) ifs σ H Q
theorem lc_data {R : SV → Mus → Prop} {j : Nat} {σ : L2.St} {B H : Hp} {Q : VK} (h : DI X w (.Name x px) iter ρ μ (LcAsk X scope elt ifs ρ j R)) (S : Sto B σ ρ) (I : SInv w B H μ) (k : Kt w B R Q) :
    tLc (tI X (.Name x px) iter) (gName j) (gQ X scope ifs) (gE X scope elt) [j] σ H Q := by
  refine h σ B H S I _ fun J items B1 H1 μ1 I1 e1 W h1 D hD => ?_
  obtain ⟨hlen, V, v0, turn, fin⟩ := h1
  obtain ⟨bD, mD, wD⟩ := I1.free hD
  let Y : Nat → Hp → L2.V → Hp → Prop := fun i H x H' => ∃ d, items[i]? = some d ∧ ((H' = H ∧ Dq B1 x d) ∨ ∃ T xs ds, x = .ref T ∧ H T = none ∧ H' = upd H T (.tup xs) ∧ DqA B1 xs ds ∧ d = .tup ds)
  have wk : Walk J items.length (fun H => Ex B1 H) Y := ⟨fun i H hi g => W.goes i H hi g, W.stops, W.yields⟩
  let Pv : Nat → Hp → Prop := fun i H' => ∃ B' μ' acc xs, SInv w B' H' μ' ∧ Ex B1 B' ∧ μ' D = none ∧ B' D = none ∧ H' D = some (.lst xs) ∧ DqA B' xs acc ∧ acc.length ≤ i ∧ V i acc μ'
  refine lc_it wk Pv ⟨B1, μ1, [], [], I1.own bD wD mD _, Ex.refl _, mD, bD, upd_same, .nil, Nat.le_refl _, v0⟩ (fun i H' _ ⟨B', _, _, _, I', g, _⟩ => g.trans I'.bh) ?_ ?_
  · rintro i v H2 H3 hi ⟨B2, μ2, acc, xs, I2, g2, m2, b2, hx, qx, hl, v2⟩ ⟨d, hd, hy⟩
    refine ⟨by simp [wipe, List.set_set], ?_⟩
    have core : ∀ B3, SInv w B3 H3 μ2 → Ex B2 B3 → B3 D = none → H3 D = some (.lst xs) → Dq B3 v d →
        gQ X scope ifs ((wipe σ [j]).set j (some v)) H3 fun b H4 => if b = true then gE X scope elt ((wipe σ [j]).set j (some v)) H4 fun y H5 => ∃ acc, H5 D = some (.lst acc) ∧ acc.length < sizeLine ∧ Pv (i + 1) (upd H5 D (.lst (acc ++ [y]))) else Pv (i + 1) H4 := by
      intro B3 I3 e3 b3 h3 q3 kb
      have J3 : SInv ⟨B3, H3, fun p => μ2 p ≠ none⟩ B3 H3 μ2 := SInv.start I3.bh fun p o z => ⟨(I3.mus p o z).1, (I3.mus p o z).2.1⟩
      have S3 : Sto B3 ((wipe σ [j]).set j (some v)) (ρ.set j (.dat d)) := by
        have s1 : Sto B3 σ ρ := S.mono (e1.trans (g2.trans e3))
        have s2 : Sto B3 (wipe σ [j]) (ρ.set j .no) := s1.wipe [j] _ (by rw [List.length_set]) fun i r hr => by
          by_cases e : j = i
          · subst e
            by_cases hl : j < ρ.length
            · rw [List.getElem?_set_self hl] at hr; cases hr; exact .inl rfl
            · rw [List.getElem?_eq_none (by rw [List.length_set]; omega)] at hr; cases hr
          · rw [List.getElem?_set_ne e] at hr
            exact .inr ⟨by simpa using fun z => e z.symm, hr⟩
        have s3 := s2.set j (r := .dat d) (v := v) q3
        rwa [List.set_set] at s3
      -- what holds of D behind a piece of the turn
      have keepD : ∀ {B4 H4 μ4}, SInv ⟨B3, H3, fun p => μ2 p ≠ none⟩ B4 H4 μ4 → μ4 D = none ∧ B4 D = none ∧ H4 D = some (.lst xs) := fun {B4 H4 μ4} J4 => by
        refine ⟨?_, J4.out D (by show H3 D ≠ none; rw [h3]; exact nofun) b3, J4.keep D _ (fun z => z m2) h3⟩
        cases z : μ4 D with
        | none => rfl
        | some o =>
          rcases (J4.mus D o z).2.2 with c | c
          · exact absurd m2 c
          · rw [show H3 D = none from c] at h3; cases h3
      have hacc : xs.length < sizeLine := by
        rw [qx.length]
        have : i < items.length := hi
        exact Nat.lt_of_le_of_lt (Nat.le_trans hl (Nat.le_of_lt this)) (Nat.lt_of_le_of_lt hlen (by decide))
      have t := turn i acc d μ2 hd hl v2
      refine (t _ kb) _ B3 H3 S3 J3 _ fun b B4 H4 μ4 J4 e4 h4 => ?_
      cases b with
      | false =>
        rw [if_neg Bool.false_ne_true]
        obtain ⟨k1, k2, k3⟩ := keepD J4
        exact ⟨B4, μ4, acc, xs, I3.back J4, g2.trans (e3.trans e4), k1, k2, k3, (qx.mono e3).mono e4, Nat.le_succ_of_le hl, h4.2 rfl⟩
      | true =>
        rw [if_pos rfl]
        intro kc
        refine h4.1 rfl kc _ B4 H4 (S3.mono e4) J4 _ fun y r B5 H5 μ5 J5 e5 q5 h5 => ?_
        · obtain ⟨d', rfl, h5⟩ := h5
          obtain ⟨k1, k2, k3⟩ := keepD J5
          refine ⟨xs, k3, hacc, B5, μ5, acc ++ [d'], xs ++ [y], (I3.back J5).own k2 wD k1 _, g2.trans (e3.trans (e4.trans e5)), k1, k2, upd_same, (((qx.mono e3).mono e4).mono e5).snoc q5, by rw [List.length_append]; exact Nat.succ_le_succ hl, h5⟩
    rcases hy with ⟨rfl, q⟩ | ⟨T, ys, ds, rfl, hT, rfl, q, rfl⟩
    · exact core B2 I2 (Ex.refl _) b2 hx (q.mono g2)
    · have hb := (I2.free hT).1
      have ne : D ≠ T := fun z => by rw [z, hT] at hx; cases hx
      exact core (upd B2 T (.tup ys)) (I2.new hT _) (Ex.new hb) (by rw [upd_ne ne]; exact b2) (by rw [upd_ne ne]; exact hx) (.tup upd_same ((q.mono g2).mono (Ex.new hb)))
  · rintro H' ⟨B', μ', acc, xs, I', g', m', b', hx, qx, hl, v'⟩
    exact k (.ref D) (.dat (.lst acc)) (upd B' D (.lst xs)) H' μ' (I'.told b' wD m' hx) (e1.trans (g'.trans (Ex.new b'))) (Dq.lst upd_same (qx.mono (Ex.new b'))) (fin acc μ' v' hl)
end
end Dat

set_option Elab.async false
set_option linter.all false
set_option maxRecDepth 100000
set_option maxHeartbeats 4000000
/-! Dat4: comprehensions as expressions; targets; the program's own defs, called where no repr is under way. -/
namespace Dat
open PySem PySem.Spec PyProof.Rows L2
section
variable {X : Cx} {w : Wd} {ρ : List SV} {μ : Mus} {R : SV → Mus → Prop} {P : Po} {elt tg iter e : Expr} {es : List Expr} {ifs : List Expr} {scope : Scope} {pos px p py spos : Pos} {x y : Str}
theorem de_lc (j : Nat) (hc : X.calm = true) (hN : X.N.Nodup) (ok : BlkOk X.N X.env.scope scope [(x, j)]) (h : DI X w (.Name x px) iter ρ μ (LcAsk X scope elt ifs ρ j R)) (hi : X.N[j]? = some x := by rfl)
    (hx : ∀ k, Loc (BX X scope k).env.scope x := by intro _; first | exact Or.inl rfl | exact Or.inr rfl) (hf : ∀ k, (BX X scope k).fn x = true ∨ (BX X scope k).env.scope.names.lookup x = some .local := by intro _; first | exact Or.inr rfl | exact Or.inl rfl)
    (hs : ∀ z, foldedSetIterable iter X.env z = pure z := by intro _; rfl) : DE X w (.ListComp elt [⟨.Name x px, iter, ifs, 0⟩] scope pos) ρ μ R := fun σ B H S I Q k =>
  tE_of (pe_lc (own := [(x, j)]) (g := gName j) (tt := gQ X scope ifs) (te := gE X scope elt) hc hN pi_self ok (fun s H C cl fp => pg_name (X := BX X scope (s, H, C, cl, fp)) hN hi (hx (s, H, C, cl, fp)) (hf (s, H, C, cl, fp)))
    (fun s H C cl fp => ⟨fun pins s1 σ1 H1 Q1 I1 q => q (s, H, C, cl, fp) pins s1 I1⟩) (fun s H C cl fp => ⟨fun pins s1 σ1 H1 Q1 I1 q => q (s, H, C, cl, fp) pins s1 I1⟩) hs) (lc_data h S I k)
/-- name = [..], the name a local -/
theorem ds_setLc (i j : Nat) (hc : X.calm = true) (hN : X.N.Nodup) (ok : BlkOk X.N X.env.scope scope [(x, j)]) (h : DI X w (.Name x px) iter ρ μ (LcAsk X scope elt ifs ρ j fun r μ' => P.nx (ρ.set i r) μ')) (hi : X.N[j]? = some x := by rfl) (hy : X.N[i]? = some y := by rfl)
    (hyl : X.env.scope.names.lookup y = some .local := by rfl) (hsw : swapsWith (.ListComp elt [⟨.Name x px, iter, ifs, 0⟩] scope pos) (some (.Name y py)) spos.line X.env = pure true := by exact sw_true rfl rfl rfl (by decide +kernel))
    (hx : ∀ k, Loc (BX X scope k).env.scope x := by intro _; first | exact Or.inl rfl | exact Or.inr rfl) (hf : ∀ k, (BX X scope k).fn x = true ∨ (BX X scope k).env.scope.names.lookup x = some .local := by intro _; first | exact Or.inr rfl | exact Or.inl rfl)
    (hs : ∀ z, foldedSetIterable iter X.env z = pure z := by intro _; rfl) : DS X w (.Assign [.Name y py] (.ListComp elt [⟨.Name x px, iter, ifs, 0⟩] scope pos) spos) ρ μ P := fun σ B H S I D E =>
  tS_of (ps_setLc (own := [(x, j)]) (g := gName j) (tt := gQ X scope ifs) (te := gE X scope elt) hc hN hy hyl hsw pi_self ok (fun s H C cl fp => pg_name (X := BX X scope (s, H, C, cl, fp)) hN hi (hx (s, H, C, cl, fp)) (hf (s, H, C, cl, fp)))
    (fun s H C cl fp => ⟨fun pins s1 σ1 H1 Q1 I1 q => q (s, H, C, cl, fp) pins s1 I1⟩) (fun s H C cl fp => ⟨fun pins s1 σ1 H1 Q1 I1 q => q (s, H, C, cl, fp) pins s1 I1⟩) hs)
    (lc_data (Q := fun v H1 => D.nx (σ.set i (some v)) H1) h S I fun v r B1 H1 μ1 I1 e1 q1 h1 => E.nx _ B1 H1 _ μ1 ((S.mono e1).set i q1) I1 e1 h1)

/-! ### targets -/
theorem dg_name (i : Nat) {r : SV} {T : List SV → Mus → Prop} (hN : X.N.Nodup) (h : T (ρ.set i r) μ) (hi : X.N[i]? = some x := by rfl) (hx : Loc X.env.scope x := by first | exact Or.inl rfl | exact Or.inr rfl)
    (hf : X.fn x = true ∨ X.env.scope.names.lookup x = some .local := by first | exact .inl rfl | exact .inr rfl) : DG X w (.Name x pos) r ρ μ T := fun σ B H v S I q Q k =>
  tG_of (pg_name hN hi hx hf) (k _ B H _ μ (S.set i q) I (Ex.refl B) h)
def tGs (X : Cx) (ts : List Expr) : TGs := fun vs σ H Q => ∀ pins s us, Inv X pins σ H s → Vals vs us → wpAny (model X.prog X.w) X.A (assignInOrder ((assignEach ts X.env).map (·.2)) us) (fun _ s' => ∃ σ' H', Inv X pins σ' H' s' ∧ Q σ' H') X.xe s
theorem pgs_self {ts : List Expr} : PGs X ts (tGs X ts) := ⟨fun pins s _ _ _ us _ I r h => h pins s us I r⟩
theorem tGs_of {ts : List Expr} {t : TGs} {vs : List V} {σ : L2.St} {H : Hp} {Q : L2.St → Hp → Prop} (h : PGs X ts t) (q : t vs σ H Q) : tGs X ts vs σ H Q := fun pins s us I r => h.run pins s σ H vs us Q I r q
def DGs (X : Cx) (w : Wd) (ts : List Expr) (ds : List Dt) (ρ : List SV) (μ : Mus) (T : List SV → Mus → Prop) : Prop :=
  ∀ σ B H vs, Sto B σ ρ → SInv w B H μ → DqA B vs ds → ∀ Q : L2.St → Hp → Prop, (∀ σ' B' H' ρ' μ', Sto B' σ' ρ' → SInv w B' H' μ' → Ex B B' → T ρ' μ' → Q σ' H') → tGs X ts vs σ H Q
theorem dgs_nil {T : List SV → Mus → Prop} (h : T ρ μ) : DGs X w [] [] ρ μ T := fun σ B H vs S I q Q k => by
  cases q
  exact tGs_of pgs_nil ⟨rfl, k σ B H ρ μ S I (Ex.refl B) h⟩
theorem dgs_cons {d : Dt} {ds : List Dt} {T : List SV → Mus → Prop} (h : DG X w e (.dat d) ρ μ fun ρ1 μ1 => DGs X w es ds ρ1 μ1 T) (hs : (assignEach (e :: es) X.env).map (·.2) = assign e X.env :: (assignEach es X.env).map (·.2) := by rfl) :
    DGs X w (e :: es) (d :: ds) ρ μ T := fun σ B H vs S I q Q k => by
  cases q with
  | cons q1 q2 =>
    exact tGs_of (pgs_cons pg_self pgs_self hs) ⟨_, _, rfl, h σ B H _ S I q1 _ fun σ1 B1 H1 ρ1 μ1 S1 I1 e1 h1 => h1 σ1 B1 H1 _ S1 I1 (q2.mono e1) Q fun σ2 B2 H2 ρ2 μ2 S2 I2 e2 => k σ2 B2 H2 ρ2 μ2 S2 I2 (e1.trans e2)⟩
theorem dg_tup {ds : List Dt} {k : Nat} {T : List SV → Mus → Prop} (hc : X.calm = true) (h : DGs X w es ds ρ μ T) (hl : ds.length = es.length) (hn : (assignEach es X.env).length = es.length := by rfl) (hst : (assignEach es X.env).findIdx? (·.1) = none := by rfl) :
    DG X w (.Tuple es k pos) (.dat (.tup ds)) ρ μ T := fun σ B H v S I q Q kk => by
  cases q with
  | @tup a xs _ ha hx => exact tG_of (pg_tup hc pgs_self hn hst) ⟨a, xs, rfl, .inl (.inl (I.bh _ _ ha)), by rw [hx.length, hl], h σ B H xs S I hx Q kk⟩
/-- pot[0] = n, pot[1] = n -/
theorem dg_pot {o i : Expr} {n : Int} {T : List SV → Mus → Prop} (h : DE X w o ρ μ fun r μ1 => ∃ q, r = .at q ∧ DE X w i ρ μ1 fun r2 μ2 => μ2 q = some .pot ∧ ((r2 = .dat (.int 0) ∧ 0 ≤ n) ∨ (r2 = .dat (.int 1) ∧ 0 ≤ n ∧ n < 4294967296)) ∧ T ρ μ2)
    (ha : ∀ v, assign (.Subscript o i pos) X.env v = (do
      let ov ← holding [v] (eval o X.env)
      let iv ← holding [v, ov] (eval i X.env)
      standAt pos
      holding [v, ov, iv] (setItem ov iv v)
      release [v, ov, iv] []) := by intro _; rfl) : DG X w (.Subscript o i pos) (.dat (.int n)) ρ μ T := fun σ B H v S I q Q k => by
  cases q
  refine tG_of (pg_sub pe_self pe_self set_list ha) (h σ B H S I _ fun v1 r1 B1 H1 μ1 I1 e1 q1 h1 => ?_)
  obtain ⟨p, rfl, h1⟩ := h1
  cases (show v1 = V.ref p from q1)
  refine h1 σ B1 H1 (S.mono e1) I1 _ fun v2 r2 B2 H2 μ2 I2 e2 q2 h2 => ?_
  obtain ⟨hm, hr, hT⟩ := h2
  obtain ⟨_, ⟨a, b, ha, hb, hb2, hH⟩, _⟩ := I2.mus p _ hm
  rcases hr with ⟨rfl, hn⟩ | ⟨rfl, hn, hn2⟩
  · cases q2
    refine ⟨p, _, 0, 0, rfl, rfl, hH, rfl, k σ B2 _ ρ (μ2.put p .pot) (S.mono (e1.trans e2)) (I2.set hm .pot ⟨n, b, hn, hb, hb2, upd_same⟩) (e1.trans e2) ?_⟩
    rw [put_self hm]; exact hT
  · cases q2
    refine ⟨p, _, 1, 1, rfl, rfl, hH, rfl, k σ B2 _ ρ (μ2.put p .pot) (S.mono (e1.trans e2)) (I2.set hm .pot ⟨a, n, ha, hn, hn2, upd_same⟩) (e1.trans e2) ?_⟩
    rw [put_self hm]; exact hT
end

/-! ### the program's own defs -/
/-- a def's promise, of calls where no repr is under way -/
structure FnG (P : Program) (w : World) (K : PySem.W.Frag) (mg : Str → Option Value) (base : Heap) (k : Nat) (f : Addr) (fd : FuncData) (ps : List Str) (sp : Sp) : Prop where
  len : ∀ vs H Q E, sp vs H Q E → vs.length = ps.length
  run : ∀ (A : Around) (outer : List Env) (s : Shared) (H : Hp) (args : Args) (us : List Value) (vs : List V) (Q : VK) (E : XK), Room k A → A.guards = some [] → Env0 P w K mg base A outer s H → BindsTo s fd args (ps.zip us) → Vals vs us → sp vs H Q E →
    codeAny (model P w) A (.call (.ref f) args) (CR CX0 outer P w H s Q E) s
/-- over data: pre of the arguments, post of the answer -/
def GSp (pre : List SV → Mus → Prop) (post : List SV → Mus → SV → Mus → Prop) : Sp := fun vs H Q _ => ∃ B rs μ, SvA B vs rs ∧ Ex B H ∧ (∀ p o, μ p = some o → B p = none ∧ MoOk B H p o) ∧ pre rs μ ∧
  ∀ v r B' H' μ', SInv ⟨B, H, fun p => μ p ≠ none⟩ B' H' μ' → Svq B' v r → post rs μ r μ' → Q v H'
section
variable {P : Program} {wd : World} {K : PySem.W.Frag} {mg : Str → Option Value} {base : Heap}
/-- the context of a def's body -/
abbrev bx (P : Program) (wd : World) (K : PySem.W.Frag) (mg : Str → Option Value) (base : Heap) (N : List Str) (qual : Str) (st : Stmt) (f : Addr) (cdv : Value) (A : Around) (outer : List Env) (s : Shared) (H : Hp) : Cx :=
  (cxOf CX0 P wd K mg base N qual (defScope st) f cdv A outer s H E0).nox
theorem start_sto {N : List Str} {B : Hp} {vs : List V} {rs : List SV} (h : SvA B vs rs) : Sto B (L2.start N vs) (rs ++ List.replicate (N.length - rs.length) .no) := by
  have hl := h.length
  refine ⟨by unfold L2.start; simp [hl], fun i r hr => ?_⟩
  by_cases hi : i < rs.length
  · refine .inr ?_
    rw [List.getElem?_append_left hi] at hr
    have : ∀ {vs : List V} {rs : List SV} {i : Nat} {r : SV}, SvA B vs rs → rs[i]? = some r → ∃ v, vs[i]? = some v ∧ Svq B v r := by
      intro vs rs i r h
      induction h generalizing i with
      | nil => intro e; simp at e
      | cons h1 h2 ih =>
        intro e
        cases i with
        | zero => simp at e; subst e; exact ⟨_, rfl, h1⟩
        | succ i => exact ih (by simpa using e)
    obtain ⟨v, h1, h2⟩ := this h hr
    refine ⟨v, ?_, h2⟩
    unfold L2.start
    rw [List.getElem?_append_left (by rw [List.length_map, hl]; exact hi), List.getElem?_map, h1]
    rfl
  · rw [List.getElem?_append_right (by omega), List.getElem?_replicate] at hr
    split at hr
    · cases hr; exact .inl rfl
    · cases hr
theorem fn_ok {x qual : Str} {st : Stmt} {f : Addr} {fd : FuncData} {N ps : List Str} {k : Nat} {pre : List SV → Mus → Prop} {post : List SV → Mus → SV → Mus → Prop} (F : Fun K x qual st f fd) (S : FnScope N ps (defScope st))
    (len : ∀ rs μ, pre rs μ → rs.length = ps.length)
    (body : ∀ (cdv : Value) (A : Around) (outer : List Env) (s : Shared) (H : Hp), Room k (bx P wd K mg base N qual st f cdv A outer s H).A → (bx P wd K mg base N qual st f cdv A outer s H).A.guards = some [] → ∀ w rs μ, pre rs μ →
      DSs (bx P wd K mg base N qual st f cdv A outer s H) w (defBody st) (rs ++ List.replicate (N.length - rs.length) .no) μ { nx := fun _ μ' => ∃ ν, ν.Sub μ' ∧ post rs μ (.dat .non) ν, rt := fun r μ' => ∃ ν, ν.Sub μ' ∧ post rs μ r ν }) :
    FnG P wd K mg base (k + 1) f fd ps (GSp pre post) := by
  have len' : ∀ vs H Q E, GSp pre post vs H Q E → vs.length = ps.length := fun vs H Q E h => by
    obtain ⟨B, rs, μ, h1, _, _, h2, _⟩ := h
    rw [h1.length]; exact len rs μ h2
  obtain ⟨oc, od, kV, doc, pm, an, cdv, ct, osl, rfl, lk, hcd⟩ := F.ex
  refine ⟨len', fun A outer s H args us vs Q E hr hg en hb rv hsp => ?_⟩
  have inK : K.In s.heap := en.mod.kin.keeps fun b o z => (en.bs b o z).1
  refine codeAny_call_function hr.depth (inK _ _ lk) rfl S.co S.gen rfl (PySem.W.codeRec_of inK hcd) (hb _ _ _ _ (wpAny_newFunctionEnv_cells S.kind ?_ fun env he s1 hx => ?_))
  · rintro ⟨n, v⟩ hy
    have q := S.par n (List.of_mem_zip hy).1
    exact q.imp id fun z => ⟨z, PySem.W.cellsFrom_some _ _ _ (.inl z)⟩
  · subst he
    refine ⟨(en.mod.nolimit.keeps fun b o z => (en.bs b o z).1).keeps hx.toInCall.keep, codeAny_func ?_⟩
    have I0 := inv_start (CX := CX0) (qual := qual) (f := f) (cd := cdv) (E := E) S hr.hd en (len' _ _ _ _ hsp) rv hx
    obtain ⟨B, rs, μ, q1, q2, q3, q4, q5⟩ := id hsp
    have b0 := body cdv A outer s H (hr.deeper _) hg ⟨B, H, fun p => μ p ≠ none⟩ rs μ q4 (L2.start N vs) B H (start_sto q1) (SInv.start q2 q3) { nx := fun _ H' => Q .non H', rt := Q }
      ⟨fun _ B' H' _ μ' _ J _ ⟨ν, hν, h⟩ => q5 .non (.dat .non) B' H' ν (J.sub hν) Dq.non h, fun v r B' H' μ' J _ q ⟨ν, hν, h⟩ => q5 v r B' H' ν (J.sub hν) q h, fun _ _ _ _ _ _ _ _ h => h.elim, fun _ _ _ _ _ _ _ _ h => h.elim⟩
    refine wpAny_mono (b0 [] s1 (I0.wish _)) (fun fl s' hs => ?_) fun _ _ hs => hs.elim
    have done : ∀ {σ' : L2.St} {H' : Hp} {v : V} {u : Value}, Inv (bx P wd K mg base N qual st f cdv A outer s H) [] σ' H' s' → RelV v u → Q v H' → CE outer P wd H s Q u s' := fun {σ' H' v u} J rv q => ⟨v, H', J.os, J.bare, J.base, J.hok, rv, q⟩
    cases fl with
    | ret u => obtain ⟨v, σ', H', J, rv, q⟩ := hs; exact done J rv q
    | next => obtain ⟨σ', H', J, q⟩ := hs; exact done (v := V.non) (u := Value.none) J rfl q
    | brk => obtain ⟨_, _, _, q⟩ := hs; exact q.elim
    | cont => obtain ⟨_, _, _, q⟩ := hs; exact q.elim
end
section
variable {X : Cx} {w : Wd} {ρ : List SV} {μ : Mus} {R : SV → Mus → Prop} {e : Expr} {es : List Expr} {x : Str} {p pos : Pos} {k : Nat} {f : Addr} {fd : FuncData} {ps : List Str}
theorem de_call {pre : List SV → Mus → Prop} {post : List SV → Mus → SV → Mus → Prop} (F : FnG X.prog X.w X.K X.mg X.base k f fd ps (GSp pre post)) (hr : Room k X.A) (hgd : X.A.guards = some []) (hm : X.mg x = some (.ref f)) (hk : PySem.W.keepIn X.K (.ref f) = true) (hb : Binds X.K fd ps [])
    (ha : DA X w (e :: es) ρ μ fun rs μ1 => pre rs μ1 ∧ ∀ r μ2, post rs μ1 r μ2 → R r μ2) (hg : Gl X x := by rfl) (hdb : (x == ("__debug__" : Str)) = false := by decide)
    (he : starEach (e :: es) X.env = (false, eval e X.env) :: starEach es X.env := by rfl) (hpl : (backTo pos (starEach es X.env)).any (·.1) = false := by rfl) : DE X w (.Call (.Name x p) (e :: es) [] pos) ρ μ R := fun σ B H S I Q kk pins s J => by
  refine wpAny_Call_Name_kw (ld_glob J hg hm ?_ hdb)
  refine PySem.W.callWith_K (h₀ := X.base) J.ok.mod.kin hk (thn ((pa_self (X := X) (es := e :: es)).run pos pins s σ H _ J (ha σ B H S I
    (fun vs H1 => ∀ us s1, Inv X pins σ H1 s1 → Vals vs us → wpAny (model X.prog X.w) X.A (call (.ref f) us) (EP X pins σ Q) X.xe s1) ?_)) fun us s1 ⟨vs, H1, J1, rv, q⟩ => ⟨J1.kIn, q us s1 J1 rv⟩) he hpl
  intro vs rs B1 H1 μ1 I1 e1 q1 h1 us s1 J1 rv
  have hsp : GSp pre post vs H1 Q E0 := ⟨B1, rs, μ1, q1, I1.bh, fun p o z => ⟨(I1.mus p o z).1, (I1.mus p o z).2.1⟩, h1.1, fun v r B' H' μ' L qv hp => kk v r B' H' μ' (I1.back L) (e1.trans L.b0) qv (h1.2 r μ' hp)⟩
  have hl : (us ++ []).length = ps.length := by rw [List.append_nil, ← rv.length]; exact F.len _ _ _ _ hsp
  have bd := hb s1 us J1.kIn hl
  rw [List.append_nil] at bd
  refine wpAny_call (codeAny_mono (F.run X.A X.stack s1 H1 ⟨us, []⟩ us vs Q E0 hr hgd J1.env0 bd rv hsp) fun r s' hq => ?_)
  match r, hq with
  | .ok (.ret u), hq => exact J1.after hq
  | .ok .next, hq => exact hq.elim
  | .ok .brk, hq => exact hq.elim
  | .ok .cont, hq => exact hq.elim
  | .error _, hq => exact hq.elim
end
end Dat

set_option Elab.async false
set_option linter.all false
set_option maxRecDepth 100000
set_option maxHeartbeats 4000000
/-! Dat5: repr of data. -/
namespace Dat
open PySem PySem.Spec PyProof.Rows L2
mutual
def toPy : Dt → PyData
  | .non => .none | .bl b => .bool b | .int i => .int i | .str x => .str x | .lst xs => .list (toPyA xs) | .tup xs => .tuple (toPyA xs) | .dic ks vs => .dict ((toPyA ks).zip (toPyA vs)) | .obj _ _ _ => .none | .err _ _ _ => .none
def toPyA : List Dt → List PyData
  | [] => []
  | d :: ds => toPy d :: toPyA ds
end
mutual
/-- what repr is told of: no own objects -/
def plain : Dt → Bool
  | .lst xs => plainA xs | .tup xs => plainA xs | .dic ks vs => plainA vs | .obj _ _ _ => false | .err _ _ _ => false | _ => true
def plainA : List Dt → Bool
  | [] => true
  | d :: ds => plain d && plainA ds
end
mutual
def hasLst : Dt → Bool
  | .lst _ => true | .tup xs => hasLstA xs | .dic ks vs => hasLstA vs | _ => false
def hasLstA : List Dt → Bool
  | [] => false
  | d :: ds => hasLst d || hasLstA ds
end
theorem toPyA_map : ∀ ds : List Dt, toPyA ds = ds.map toPy
  | [] => by simp [toPyA]
  | d :: ds => by simp [toPyA, toPyA_map ds]
theorem toPyA_len (ds : List Dt) : (toPyA ds).length = ds.length := by rw [toPyA_map, List.length_map]
theorem keyVals {κ : Type} : ∀ {kvs : List (κ × V)} {vs : List (κ × Value)}, KV kvs vs → Vals (kvs.map (·.2)) (vs.map (·.2))
  | _, _, .nil => .nil
  | _, _, .cons h t => .cons h.2 (keyVals t)
section
variable {X : Cx} {pins : List (Addr × Obj)} {σ : L2.St} {H : Hp} {s : Shared} {h : Heap}
theorem dictParts {P : Program} {w : World} : ∀ {es : List DictEntry} {vs : List (Key × Value)} {kvs : List (Key × V)}, Pairs (mixKind P w) es vs → KV kvs vs →
    ReadsAll h (es.map (·.key)) (toPyA (kvs.map fun kv => keyD kv.1)) [] ∧ Vals (kvs.map (·.2)) (es.map (·.val)) := by
  intro es vs kvs p r
  induction p generalizing kvs with
  | nil => cases r; exact ⟨.nil, .nil⟩
  | @cons e kv es' vs' hk hv t ih =>
    cases r with
    | @cons a _ l1 _ r1 r2 =>
      obtain ⟨h1, h2⟩ := ih r2
      have q : Reads h e.key (toPy (keyD a.1)) [] := by
        rcases keyIs_shape (show keyIs kv.1 e.key = true from hk) with ⟨i, t, e1, e2⟩ | ⟨x, t, e1, e2⟩
        · rw [r1.1, e1, e2]; exact .int i t
        · rw [r1.1, e1, e2]; exact .str x t
      refine ⟨?_, .cons (by show L2.RelV a.2 e.val; rw [hv]; exact r1.2) h2⟩
      have z := ReadsAll.cons q h1
      rw [List.map_cons, List.map_cons, toPyA]
      exact z
theorem zip_maps {α β : Type} : ∀ {as : List α} {bs : List β}, as.length = bs.length → (as.zip bs).map (·.1) = as ∧ (as.zip bs).map (·.2) = bs
  | [], [], _ => ⟨rfl, rfl⟩
  | a :: as, b :: bs, h => by
    obtain ⟨h1, h2⟩ := zip_maps (as := as) (bs := bs) (by simpa using h)
    exact ⟨by rw [List.zip_cons_cons, List.map_cons, h1], by rw [List.zip_cons_cons, List.map_cons, h2]⟩
  | [], _ :: _, h => by simp at h
  | _ :: _, [], h => by simp at h
mutual
theorem Dq.reads (I : Inv X pins σ H s) : ∀ (d : Dt) (v : V) (u : Value), Dq H v d → plain d = true → RelV v u → ∃ as, Reads s.heap u (toPy d) as ∧ (hasLst d = false → sysModules ∉ as)
  | .non, _, _, h, _, r => by cases h; cases r; exact ⟨[], by rw [toPy]; exact .none, fun _ => List.not_mem_nil⟩
  | .bl b, _, _, h, _, r => by cases h; cases r; exact ⟨[], by rw [toPy]; exact .bool b, fun _ => List.not_mem_nil⟩
  | .int i, _, _, h, _, r => by cases h; obtain ⟨t, rfl⟩ := r; exact ⟨[], by rw [toPy]; exact .int i t, fun _ => List.not_mem_nil⟩
  | .str x, _, _, h, _, r => by cases h; obtain ⟨t, rfl⟩ := r; exact ⟨[], by rw [toPy]; exact .str x t, fun _ => List.not_mem_nil⟩
  | .lst ds, _, _, h, hp, r => by
    cases h with
    | lst hs ha =>
      cases r
      obtain ⟨_, its, n, rv, ho⟩ := (show ObjOk X.prog X.w H s.heap _ (.lst _) from I.hok _ _ hs)
      obtain ⟨as, hr, _⟩ := Dq.readsA I ds _ its ha (by simpa [plain] using hp) rv
      exact ⟨_, by rw [toPy]; exact .list ho rfl rfl hr, fun z => by simp [hasLst] at z⟩
  | .tup ds, _, _, h, hp, r => by
    cases h with
    | tup hs ha =>
      cases r
      obtain ⟨_, its, rv, o, ho, hc, n, hd⟩ := (show ObjOk X.prog X.w H s.heap _ (.tup _) from I.hok _ _ hs)
      obtain ⟨as, hr, hm⟩ := Dq.readsA I ds _ its ha (by simpa [plain] using hp) rv
      exact ⟨as, by rw [toPy]; exact .tuple ho hc hd hr, fun z => hm (by simpa [hasLst] using z)⟩
  | .dic ks ds, _, _, h, hp, r => by
    cases h with
    | @dic a kvs _ hs ha =>
      cases r
      obtain ⟨_, hsm, vs, rv, o, es, ep, ho, hx, hd, _, pr, _⟩ := (show ObjOk X.prog X.w H s.heap _ (.dK _) from I.hok _ _ hs)
      obtain ⟨h1, h2⟩ := dictParts (h := s.heap) pr rv
      obtain ⟨as, hr, hm⟩ := Dq.readsA I ds _ _ ha (by simpa [plain] using hp) h2
      have hl : (toPyA (kvs.map fun kv => keyD kv.1)).length = (toPyA ds).length := by rw [toPyA_len, toPyA_len, List.length_map, ← ha.length, List.length_map]
      obtain ⟨z1, z2⟩ := zip_maps hl
      have z : a ≠ sysModules := by simpa using hsm
      refine ⟨a :: [] ++ as, ?_, fun w => ?_⟩
      · rw [toPy]
        exact .dict ho hx.1 hd (by rw [z1]; exact h1) (by rw [z2]; exact hr)
      · have w' := hm (by simpa [hasLst] using w)
        intro q
        rcases List.mem_cons.mp q with e | e
        · exact z e.symm
        · exact w' e
  | .obj _ _ _, _, _, _, hp, _ => by simp [plain] at hp
  | .err _ _ _, _, _, _, hp, _ => by simp [plain] at hp
theorem Dq.readsA (I : Inv X pins σ H s) : ∀ (ds : List Dt) (vs : List V) (us : List Value), DqA H vs ds → plainA ds = true → Vals vs us → ∃ as, ReadsAll s.heap us (toPyA ds) as ∧ (hasLstA ds = false → sysModules ∉ as)
  | [], _, _, h, _, r => by cases h; cases r; exact ⟨[], by rw [toPyA]; exact .nil, fun _ => List.not_mem_nil⟩
  | d :: ds, _, _, h, hp, r => by
    cases h with
    | cons h1 h2 =>
      cases r with
      | cons r1 r2 =>
        have hp' : plain d = true ∧ plainA ds = true := by simpa [plainA] using hp
        obtain ⟨as, q1, m1⟩ := Dq.reads I d _ _ h1 hp'.1 r1
        obtain ⟨bs, q2, m2⟩ := Dq.readsA I ds _ _ h2 hp'.2 r2
        refine ⟨as ++ bs, by rw [toPyA]; exact .cons q1 q2, fun w => ?_⟩
        have w' : hasLst d = false ∧ hasLstA ds = false := by simpa [hasLstA] using w
        intro q
        rcases List.mem_append.mp q with e | e
        · exact m1 w'.1 e
        · exact m2 w'.2 e
end
/-- what repr is told of, n: the longest text -/
structure Shown (d : Dt) : Prop where
  plain : plain d = true
  one : (toPy d).hasDict = true → hasLst d = false
  shows : (toPy d).showable = true
  len : (toPy d).shown.length ≤ sizeLine
  deep : (toPy d).depth ≤ 60
theorem ca_repr {w : Wd} {μ : Mus} {R : SV → Mus → Prop} {d : Dt} {k : Nat} (hr : Room k X.A) (hg : X.A.guards = some []) (hd : Shown d) (h : R (.dat (.str (toPy d).shown)) μ) : CaD X w (.builtin "repr") [.dat d] μ R := fun B H vs I q Q kk pins s σ us J rv => by
  cases q with
  | cons q1 q2 =>
    cases q2
    obtain ⟨u, rfl, r1⟩ := vals1 rv
    have fin : ∀ {s' : Shared} {t : Tok}, Inv X pins σ H s' → EP X pins σ Q (.str (toPy d).shown t) s' := fun {s' t} J' => ⟨.str _, H, J', ⟨t, rfl⟩, kk (.str _) (.dat (.str _)) B H μ I (Ex.refl B) (Dq.str _) h⟩
    have obj : ∀ a, u = .ref a → wpAny (model X.prog X.w) X.A (call (.builtin "repr") [u]) (EP X pins σ Q) X.xe s := fun a e => by
      obtain ⟨as, rd, hm⟩ := Dq.reads J d _ u (q1.mono I.bh) hd.plain r1
      subst e
      have hu := hr.un
      have hdp := hd.deep
      exact repr_of_reads' rd hd.shows (fun z => hm (hd.one z)) hg (by omega) (fun _ _ e => e) (fun h' t tk keep => fin (J.kept (t' := tk) keep)) hd.len
    clear h kk
    cases d with
    | non =>
      cases q1; cases r1
      simp only [toPy, PyData.shown] at fin
      exact P.repr_of_none (fin (J.tok _))
    | bl b =>
      cases q1; cases r1
      simp only [toPy, PyData.shown] at fin
      refine P.repr_of_bool ?_
      cases b
      · exact fin (J.tok _)
      · exact fin (J.tok _)
    | int i =>
      cases q1; obtain ⟨t, rfl⟩ := r1
      have hs := hd.shows
      simp only [toPy, PyData.shown, PyData.showable, decide_eq_true_eq] at fin hs
      exact P.repr_of_int hs (fin (J.tok _))
    | str x =>
      cases q1; obtain ⟨t, rfl⟩ := r1
      have hl := hd.len
      simp only [toPy, PyData.shown] at fin hl
      exact P.repr_of_str (fin (J.tok _)) hl
    | lst _ => cases q1; exact obj _ r1
    | tup _ => cases q1; exact obj _ r1
    | dic _ _ => cases q1; exact obj _ r1
    | obj _ _ _ => cases q1; exact obj _ r1
    | err _ _ _ => cases q1 <;> exact obj _ r1
end
end Dat

set_option Elab.async false
set_option linter.all false
set_option maxRecDepth 100000
set_option maxHeartbeats 4000000
/-! Dat6: operations, subscripts, built-ins, methods over data. -/
namespace Dat
open PySem PySem.Spec PyProof.Rows L2
/-- a list, data or one that may change -/
def LsQ (r : SV) (μ : Mus) (ds : List Dt) : Prop := r = .dat (.lst ds) ∨ ∃ p, r = .at p ∧ μ p = some (.lst ds)
theorem ls_get {w : Wd} {B H : Hp} {μ : Mus} {v : V} {r : SV} {ds : List Dt} (I : SInv w B H μ) (q : Svq B v r) (h : LsQ r μ ds) : ∃ a xs, v = .ref a ∧ H a = some (.lst xs) ∧ DqA B xs ds := by
  rcases h with rfl | ⟨p, rfl, hm⟩
  · cases q with
    | @lst a xs _ ha hx => exact ⟨a, xs, rfl, I.bh _ _ ha, hx⟩
  · obtain ⟨_, ⟨xs, h1, h2⟩, _⟩ := I.mus p _ hm
    exact ⟨p, xs, q, h1, h2⟩
def cutD (ds : List Dt) (lo hi : Option Int) : List Dt := (ds.drop (HT.sIx ds.length 0 lo)).take (HT.sIx ds.length ds.length hi - HT.sIx ds.length 0 lo)
theorem DqA.cut {H : Hp} {vs : List V} {ds : List Dt} (q : DqA H vs ds) (lo hi : Option Int) : DqA H (cutV vs lo hi) (cutD ds lo hi) := by
  unfold cutV cutD
  rw [q.length]
  exact (q.drop _).take _
theorem DqA.at {H : Hp} {vs : List V} {ds : List Dt} {i : Int} {d : Dt} (q : DqA H vs ds) (h : atI ds i = some d) : ∃ v, atI vs i = some v ∧ Dq H v d := by
  unfold atI at h ⊢
  rw [q.length]
  cases e : ixN ds.length i with
  | none => rw [e] at h; cases h
  | some j =>
    rw [e] at h
    exact q.get h
mutual
def noDic : Dt → Bool
  | .lst xs => noDicA xs | .tup xs => noDicA xs | .dic _ _ => false | .obj _ _ _ => false | .err _ _ _ => false | _ => true
def noDicA : List Dt → Bool
  | [] => true
  | d :: ds => noDic d && noDicA ds
end
mutual
theorem Dq.toDp {K : PySem.W.Frag} {B H : Hp} (e : Ex B H) : ∀ {v : V} {d : Dt}, Dq B v d → noDic d = true → Dp K H v (toPy d)
  | _, _, .non, _ => by rw [toPy]; exact .non
  | _, _, .bl b, _ => by rw [toPy]; exact .bl b
  | _, _, .int i, _ => by rw [toPy]; exact .int i
  | _, _, .str x, _ => by rw [toPy]; exact .str x
  | _, _, .lst h q, n => by rw [toPy]; exact .lst (.inl (.inl (e _ _ h))) (DqA.toDp e q (by simpa [noDic] using n))
  | _, _, .tup h q, n => by rw [toPy]; exact .tup (.inl (.inl (e _ _ h))) (DqA.toDp e q (by simpa [noDic] using n))
  | _, _, .dic h q, n => by simp [noDic] at n
  | _, _, .obj h q, n => by simp [noDic] at n
  | _, _, .err h k q, n => by simp [noDic] at n
  | _, _, .err0 h, n => by simp [noDic] at n
theorem DqA.toDp {K : PySem.W.Frag} {B H : Hp} (e : Ex B H) : ∀ {vs : List V} {ds : List Dt}, DqA B vs ds → noDicA ds = true → DpAll K H vs (toPyA ds)
  | _, _, .nil, _ => by rw [toPyA]; exact .nil
  | _, _, .cons h q, n => by
    have n' := Bool.and_eq_true_iff.mp (show (noDic _ && noDicA _) = true by simpa [noDicA] using n)
    rw [toPyA]; exact .cons (Dq.toDp e h n'.1) (DqA.toDp e q n'.2)
end

section
variable {X : Cx} {w : Wd} {μ : Mus} {R : SV → Mus → Prop} {i j : Int} {x y : Str} {xs ys : List Dt}
/-! ### arithmetic, texts, lists, tuples -/
theorem op_addI (h : R (.dat (.int (i + j))) μ) : OpD X w (binaryOp .Add) (.dat (.int i)) (.dat (.int j)) μ R := fun B H v u I q1 q2 Q k => by
  cases q1; cases q2; exact sO_of op_add ⟨i, j, rfl, rfl, k (.int _) (.dat (.int _)) B H μ I (Ex.refl B) (Dq.int _) h⟩
theorem op_subI (h : R (.dat (.int (i - j))) μ) : OpD X w (binaryOp .Sub) (.dat (.int i)) (.dat (.int j)) μ R := fun B H v u I q1 q2 Q k => by
  cases q1; cases q2; exact sO_of op_sub ⟨i, j, rfl, rfl, k (.int _) (.dat (.int _)) B H μ I (Ex.refl B) (Dq.int _) h⟩
theorem op_mulI (hb : (-(2 ^ 64) < i ∧ i < 2 ^ 64) ∨ (-(2 ^ 64) < j ∧ j < 2 ^ 64)) (h : R (.dat (.int (i * j))) μ) : OpD X w (binaryOp .Mult) (.dat (.int i)) (.dat (.int j)) μ R := fun B H v u I q1 q2 Q k => by
  cases q1; cases q2; exact sO_of op_mul ⟨i, j, rfl, rfl, hb, k (.int _) (.dat (.int _)) B H μ I (Ex.refl B) (Dq.int _) h⟩
theorem op_modI (hj : 0 < j) (h : R (.dat (.int (i % j))) μ) : OpD X w (binaryOp .Mod) (.dat (.int i)) (.dat (.int j)) μ R := fun B H v u I q1 q2 Q k => by
  cases q1; cases q2; exact sO_of op_mod ⟨i, j, rfl, rfl, hj, k (.int _) (.dat (.int _)) B H μ I (Ex.refl B) (Dq.int _) h⟩
theorem op_fdivI (hj : 0 < j) (hj2 : j < 1073741824) (h : R (.dat (.int (i / j))) μ) : OpD X w (binaryOp .FloorDiv) (.dat (.int i)) (.dat (.int j)) μ R := fun B H v u I q1 q2 Q k => by
  cases q1; cases q2; exact sO_of op_fdiv ⟨i, j, rfl, rfl, ⟨hj, hj2⟩, k (.int _) (.dat (.int _)) B H μ I (Ex.refl B) (Dq.int _) h⟩
theorem op_powI (hj : 0 ≤ j) (hj2 : j ≤ 1000000) (hi : i.natAbs < 2 ^ 64) (h : R (.dat (.int (i ^ j.toNat))) μ) : OpD X w (binaryOp .Pow) (.dat (.int i)) (.dat (.int j)) μ R := fun B H v u I q1 q2 Q k => by
  cases q1; cases q2; exact sO_of op_pow ⟨i, j, rfl, rfl, ⟨hj, hj2, hi⟩, k (.int _) (.dat (.int _)) B H μ I (Ex.refl B) (Dq.int _) h⟩
theorem un_negI (h : R (.dat (.int (-i))) μ) : UnD X w (unaryOp .USub) (.dat (.int i)) μ R := fun B H v I q Q k => by
  cases q; exact sU_of un_neg ⟨i, rfl, k (.int _) (.dat (.int _)) B H μ I (Ex.refl B) (Dq.int _) h⟩
theorem op_addS (hl : x.length + y.length ≤ sizeLine) (h : R (.dat (.str (x ++ y))) μ) : OpD X w (binaryOp .Add) (.dat (.str x)) (.dat (.str y)) μ R := fun B H v u I q1 q2 Q k => by
  cases q1; cases q2; exact sO_of op_add_str ⟨x, y, rfl, rfl, hl, k (.str _) (.dat (.str _)) B H μ I (Ex.refl B) (Dq.str _) h⟩
theorem op_addT (hl : xs.length + ys.length ≤ sizeLine) (h : R (.dat (.tup (xs ++ ys))) μ) : OpD X w (binaryOp .Add) (.dat (.tup xs)) (.dat (.tup ys)) μ R := fun B H v u I q1 q2 Q k => by
  cases q1 with
  | @tup a as _ ha hx =>
    cases q2 with
    | @tup b bs _ hb hy =>
      refine sO_of op_catA ⟨a, b, as, bs, rfl, rfl, .inl (.inl (I.bh _ _ ha)), .inl (.inl (I.bh _ _ hb)), by rw [hx.length, hy.length]; exact hl, fun e => ?_, fun _ e => ?_, fun _ _ p hp => ?_⟩
      · subst e
        cases hx
        exact k _ (.dat (.tup ([] ++ ys))) B H μ I (Ex.refl B) (Dq.tup hb hy) h
      · subst e
        cases hy
        exact k _ (.dat (.tup (xs ++ []))) B H μ I (Ex.refl B) (by rw [List.append_nil]; exact Dq.tup ha hx) h
      · have f := (I.free hp).1
        exact k _ (.dat (.tup (xs ++ ys))) _ _ μ (I.new hp _) (Ex.new f) (Dq.tup upd_same ((hx.append hy).mono (Ex.new f))) h
theorem op_addL {r r' : SV} (h1 : LsQ r μ xs) (h2 : LsQ r' μ ys) (hl : xs.length + ys.length ≤ sizeLine) (h : R (.dat (.lst (xs ++ ys))) μ) : OpD X w (binaryOp .Add) r r' μ R := fun B H v u I q1 q2 Q k => by
  obtain ⟨a, as, rfl, ha, hx⟩ := ls_get I q1 h1
  obtain ⟨b, bs, rfl, hb, hy⟩ := ls_get I q2 h2
  refine sO_of op_cat ⟨a, b, as, bs, rfl, rfl, ha, hb, by rw [hx.length, hy.length]; exact hl, fun p hp => ?_⟩
  have f := (I.free hp).1
  exact k _ (.dat (.lst (xs ++ ys))) _ _ μ (I.new hp _) (Ex.new f) (Dq.lst upd_same ((hx.append hy).mono (Ex.new f))) h

/-! ### comparisons -/
theorem op_cmpI {op : CmpOp} {g : Int → Int → Bool} (ho : OpR X (compareOp op) (rI0 fun i j => .bl (g i j))) (h : R (.dat (.bl (g i j))) μ) : OpD X w (compareOp op) (.dat (.int i)) (.dat (.int j)) μ R := fun B H v u I q1 q2 Q k => by
  cases q1; cases q2; exact sO_of ho ⟨i, j, rfl, rfl, k (.bl _) (.dat (.bl _)) B H μ I (Ex.refl B) (Dq.bl _) h⟩
theorem op_ltI (h : R (.dat (.bl (decide (i < j)))) μ) : OpD X w (compareOp .Lt) (.dat (.int i)) (.dat (.int j)) μ R := op_cmpI op_lt h
theorem op_leI (h : R (.dat (.bl (decide (i ≤ j)))) μ) : OpD X w (compareOp .LtE) (.dat (.int i)) (.dat (.int j)) μ R := op_cmpI op_le h
theorem op_gtI (h : R (.dat (.bl (decide (j < i)))) μ) : OpD X w (compareOp .Gt) (.dat (.int i)) (.dat (.int j)) μ R := op_cmpI op_gt h
theorem op_geI (h : R (.dat (.bl (decide (j ≤ i)))) μ) : OpD X w (compareOp .GtE) (.dat (.int i)) (.dat (.int j)) μ R := op_cmpI op_ge h
theorem op_eqI (h : R (.dat (.bl (decide (i = j)))) μ) : OpD X w (compareOp .Eq) (.dat (.int i)) (.dat (.int j)) μ R := fun B H v u I q1 q2 Q k => by
  cases q1; cases q2
  have e : decide (V.int i = V.int j) = decide (i = j) := by simp
  exact sO_of op_eq ⟨rfl, k (.bl _) (.dat (.bl _)) B H μ I (Ex.refl B) (Dq.bl _) (by rw [e]; exact h)⟩
theorem op_neI (h : R (.dat (.bl (!decide (i = j)))) μ) : OpD X w (compareOp .NotEq) (.dat (.int i)) (.dat (.int j)) μ R := fun B H v u I q1 q2 Q k => by
  cases q1; cases q2
  have e : decide (V.int i = V.int j) = decide (i = j) := by simp
  exact sO_of op_ne ⟨rfl, k (.bl _) (.dat (.bl _)) B H μ I (Ex.refl B) (Dq.bl _) (by rw [e]; exact h)⟩
theorem op_eqS (h : R (.dat (.bl (decide (x = y)))) μ) : OpD X w (compareOp .Eq) (.dat (.str x)) (.dat (.str y)) μ R := fun B H v u I q1 q2 Q k => by
  cases q1; cases q2
  have e : decide (V.str x = V.str y) = decide (x = y) := by simp
  exact sO_of op_eq ⟨rfl, k (.bl _) (.dat (.bl _)) B H μ I (Ex.refl B) (Dq.bl _) (by rw [e]; exact h)⟩
theorem op_neS (h : R (.dat (.bl (!decide (x = y)))) μ) : OpD X w (compareOp .NotEq) (.dat (.str x)) (.dat (.str y)) μ R := fun B H v u I q1 q2 Q k => by
  cases q1; cases q2
  have e : decide (V.str x = V.str y) = decide (x = y) := by simp
  exact sO_of op_ne ⟨rfl, k (.bl _) (.dat (.bl _)) B H μ I (Ex.refl B) (Dq.bl _) (by rw [e]; exact h)⟩
theorem op_leS (h : R (.dat (.bl (!decide (y.cps.toList < x.cps.toList)))) μ) : OpD X w (compareOp .LtE) (.dat (.str x)) (.dat (.str y)) μ R := fun B H v u I q1 q2 Q k => by
  cases q1; cases q2; exact sO_of op_le_str ⟨x, y, rfl, rfl, k (.bl _) (.dat (.bl _)) B H μ I (Ex.refl B) (Dq.bl _) h⟩
/-- lists, tuples, whatever they hold (no dicts) -/
theorem op_eqDt {d e : Dt} {k : Nat} (hr : Room k X.A) (hd : noDic d = true) (he : noDic e = true) (s1 : SeqAt.shaped (toPy d) = true) (s2 : SeqAt.shaped (toPy e) = true) (h : R (.dat (.bl (PyData.eqv (toPy d) (toPy e)))) μ) : OpD X w (compareOp .Eq) (.dat d) (.dat e) μ R := fun B H v u I q1 q2 Q k =>
  sO_of (op_eqD hr.units) ⟨_, _, Dq.toDp I.bh q1 hd, Dq.toDp I.bh q2 he, s1, s2, k (.bl _) (.dat (.bl _)) B H μ I (Ex.refl B) (Dq.bl _) h⟩
theorem op_neDt {d e : Dt} {k : Nat} (hr : Room k X.A) (hd : noDic d = true) (he : noDic e = true) (s1 : SeqAt.shaped (toPy d) = true) (s2 : SeqAt.shaped (toPy e) = true) (h : R (.dat (.bl (!PyData.eqv (toPy d) (toPy e)))) μ) : OpD X w (compareOp .NotEq) (.dat d) (.dat e) μ R := fun B H v u I q1 q2 Q k =>
  sO_of (op_neD hr.units) ⟨_, _, Dq.toDp I.bh q1 hd, Dq.toDp I.bh q2 he, s1, s2, k (.bl _) (.dat (.bl _)) B H μ I (Ex.refl B) (Dq.bl _) h⟩
theorem op_signIn {c : Nat} (h : R (.dat (.bl (decide (c ∈ y.cps.toList)))) μ) : OpD X w (compareOp .In) (.dat (.str ⟨#[c]⟩)) (.dat (.str y)) μ R := fun B H v u I q1 q2 Q k => by
  cases q1; cases q2; exact sO_of op_in_sign ⟨c, y, rfl, rfl, k (.bl _) (.dat (.bl _)) B H μ I (Ex.refl B) (Dq.bl _) h⟩
theorem op_signNotIn {c : Nat} (h : R (.dat (.bl (!decide (c ∈ y.cps.toList)))) μ) : OpD X w (compareOp .NotIn) (.dat (.str ⟨#[c]⟩)) (.dat (.str y)) μ R := fun B H v u I q1 q2 Q k => by
  cases q1; cases q2; exact sO_of op_notIn_sign ⟨c, y, rfl, rfl, k (.bl _) (.dat (.bl _)) B H μ I (Ex.refl B) (Dq.bl _) h⟩
theorem inV_strs : ∀ (x : Str) (zs : List Str), inV (.str x) (zs.map V.str) = decide (x ∈ zs)
  | x, [] => rfl
  | x, z :: zs => by
    have ih := inV_strs x zs
    unfold inV at ih ⊢
    rw [List.map_cons, List.any_cons, ih]
    show ((z == x) || _) = _
    by_cases e : z = x
    · subst e; simp
    · have e' : ¬ x = z := fun q => e q.symm
      have b : (z == x) = false := by simpa using e
      rw [b]; simp [e']
theorem flat_strs : ∀ zs : List Str, (zs.map V.str).all flatV = true
  | [] => rfl
  | z :: zs => by rw [List.map_cons, List.all_cons, flat_strs zs]; rfl
theorem op_notInL {r : SV} {zs : List Str} (h1 : LsQ r μ (zs.map Dt.str)) (h : R (.dat (.bl (!decide (x ∈ zs)))) μ) : OpD X w (compareOp .NotIn) (.dat (.str x)) r μ R := fun B H v u I q1 q2 Q k => by
  cases q1
  obtain ⟨a, as, rfl, ha, hx⟩ := ls_get I q2 h1
  have e := DqA.strs hx
  subst e
  refine sO_of op_notIn_seq ⟨a, _, rfl, .inl (.inl (.inl ha)), rfl, flat_strs zs, ?_⟩
  rw [if_pos rfl, inV_strs]
  exact k (.bl _) (.dat (.bl _)) B H μ I (Ex.refl B) (Dq.bl _) h
theorem op_inL {r : SV} {zs : List Str} (h1 : LsQ r μ (zs.map Dt.str)) (h : R (.dat (.bl (decide (x ∈ zs)))) μ) : OpD X w (compareOp .In) (.dat (.str x)) r μ R := fun B H v u I q1 q2 Q k => by
  cases q1
  obtain ⟨a, as, rfl, ha, hx⟩ := ls_get I q2 h1
  have e := DqA.strs hx
  subst e
  refine sO_of op_in_seq ⟨a, _, rfl, .inl (.inl (.inl ha)), rfl, flat_strs zs, ?_⟩
  rw [if_neg Bool.false_ne_true, inV_strs]
  exact k (.bl _) (.dat (.bl _)) B H μ I (Ex.refl B) (Dq.bl _) h

/-! ### subscripts, slices -/
theorem ix_dL {r : SV} {d : Dt} (h1 : LsQ r μ xs) (ha : atI xs i = some d) (h : R (.dat d) μ) : IxD X w r (.dat (.int i)) μ R := fun B H v u I q1 q2 Q k => by
  cases q2
  obtain ⟨a, as, rfl, hH, hx⟩ := ls_get I q1 h1
  obtain ⟨v, e1, e2⟩ := hx.at ha
  exact sIx_of ix_list ⟨a, as, i, v, rfl, rfl, .inl (.inl hH), e1, k v (.dat d) B H μ I (Ex.refl B) e2 h⟩
theorem ix_dT {d : Dt} (ha : atI xs i = some d) (h : R (.dat d) μ) : IxD X w (.dat (.tup xs)) (.dat (.int i)) μ R := fun B H v u I q1 q2 Q k => by
  cases q2
  cases q1 with
  | @tup a as _ hH hx =>
    obtain ⟨v, e1, e2⟩ := hx.at ha
    exact sIx_of ix_tup ⟨a, as, i, v, rfl, rfl, .inl (.inl (I.bh _ _ hH)), e1, k v (.dat d) B H μ I (Ex.refl B) e2 h⟩
theorem ix_dS {c : Nat} (hl : x.length ≤ sizeLine) (ha : atI x.cps.toList i = some c) (h : R (.dat (.str ⟨#[c]⟩)) μ) : IxD X w (.dat (.str x)) (.dat (.int i)) μ R := fun B H v u I q1 q2 Q k => by
  cases q1; cases q2; exact sIx_of ix_str ⟨x, i, c, rfl, rfl, hl, ha, k (.str _) (.dat (.str _)) B H μ I (Ex.refl B) (Dq.str _) h⟩
theorem ix_pot0 {p : Addr} (hm : μ p = some .pot) (h : ∀ a : Int, 0 ≤ a → R (.dat (.int a)) μ) : IxD X w (.at p) (.dat (.int 0)) μ R := fun B H v u I q1 q2 Q k => by
  cases q2
  cases (show v = V.ref p from q1)
  obtain ⟨_, ⟨a, b, ha, hb, hb2, hH⟩, _⟩ := I.mus p _ hm
  exact sIx_of ix_list ⟨p, _, 0, _, rfl, rfl, .inl (.inl hH), rfl, k (.int a) (.dat (.int a)) B H μ I (Ex.refl B) (Dq.int _) (h a ha)⟩
theorem ix_pot1 {p : Addr} (hm : μ p = some .pot) (h : ∀ b : Int, 0 ≤ b → b < 4294967296 → R (.dat (.int b)) μ) : IxD X w (.at p) (.dat (.int 1)) μ R := fun B H v u I q1 q2 Q k => by
  cases q2
  cases (show v = V.ref p from q1)
  obtain ⟨_, ⟨a, b, ha, hb, hb2, hH⟩, _⟩ := I.mus p _ hm
  exact sIx_of ix_list ⟨p, _, 1, _, rfl, rfl, .inl (.inl hH), rfl, k (.int b) (.dat (.int b)) B H μ I (Ex.refl B) (Dq.int _) (h b hb hb2)⟩
theorem ix_sc {a : Addr} {ns : List Int} {n : Int} (ha : atI ns i = some n) (h : R (.dat (.int n)) μ) : IxD X w (.sc X.K a ns) (.dat (.int i)) μ R := fun B H v u I q1 q2 Q k => by
  cases q2
  obtain ⟨rfl, sq⟩ := q1
  have e : atI (ns.map V.int) i = some (.int n) := by
    unfold atI at ha ⊢
    rw [List.length_map]
    cases hj : ixN ns.length i with
    | none => rw [hj] at ha; cases ha
    | some j =>
      rw [hj] at ha
      show (ns.map V.int)[j]? = _
      rw [List.getElem?_map, show ns[j]? = some n from ha]
      rfl
  refine sIx_of ix_list ⟨a, _, i, _, rfl, rfl, ?_, e, k (.int n) (.dat (.int n)) B H μ I (Ex.refl B) (Dq.int _) h⟩
  exact sq.elim (fun z => .inl (z.elim (fun q => .inl (I.bh _ _ q)) fun ⟨c, q⟩ => .inr ⟨c, I.bh _ _ q⟩)) .inr
theorem sl_dT {lo hi : Option Int} (h : R (.dat (.tup (cutD xs lo hi))) μ) : SlD X w (.dat (.tup xs)) lo hi μ R := fun B H v I q Q k => by
  cases q with
  | @tup a as _ ha hx =>
    refine sSl_of sl_tupA ⟨a, as, rfl, .inl (.inl (I.bh _ _ ha)), fun z => ?_, fun _ p hp => ?_⟩
    · have e : cutD xs lo hi = xs := by
        unfold cutD
        rw [← hx.length, z.1, z.2, List.drop_zero, Nat.sub_zero, hx.length, List.take_length]
      exact k _ (.dat (.tup (cutD xs lo hi))) B H μ I (Ex.refl B) (by rw [e]; exact Dq.tup ha hx) h
    · have f := (I.free hp).1
      exact k _ (.dat (.tup (cutD xs lo hi))) _ _ μ (I.new hp _) (Ex.new f) (Dq.tup upd_same ((hx.cut lo hi).mono (Ex.new f))) h
theorem sl_dS {lo hi : Option Int} (hl : x.length ≤ sizeLine) (h : R (.dat (.str (cutS x lo hi))) μ) : SlD X w (.dat (.str x)) lo hi μ R := fun B H v I q Q k => by
  cases q; exact sSl_of sl_str ⟨x, rfl, hl, k (.str _) (.dat (.str _)) B H μ I (Ex.refl B) (Dq.str _) h⟩

/-! ### built-ins -/
theorem SvA.one {B : Hp} {vs : List V} {r : SV} (h : SvA B vs [r]) : ∃ v, vs = [v] ∧ Svq B v r := by
  cases h with | cons a b => cases b; exact ⟨_, rfl, a⟩
theorem SvA.two {B : Hp} {vs : List V} {r s : SV} (h : SvA B vs [r, s]) : ∃ v u, vs = [v, u] ∧ Svq B v r ∧ Svq B u s := by
  cases h with | cons a b => cases b with | cons c d => cases d; exact ⟨_, _, rfl, a, c⟩
theorem ca_max2 (hc : X.calm = true) (h : R (.dat (.int (max i j))) μ) : CaD X w (.builtin "max") [.dat (.int i), .dat (.int j)] μ R := fun B H vs I q Q k => by
  obtain ⟨v, u, rfl, q1, q2⟩ := q.two
  cases q1; cases q2
  have e : (if j > i then j else i) = max i j := by omega
  exact sC_of (call_max2 hc) ⟨i, j, rfl, by rw [e]; exact k (.int _) (.dat (.int _)) B H μ I (Ex.refl B) (Dq.int _) h⟩
theorem ca_min2 (hc : X.calm = true) (h : R (.dat (.int (min i j))) μ) : CaD X w (.builtin "min") [.dat (.int i), .dat (.int j)] μ R := fun B H vs I q Q k => by
  obtain ⟨v, u, rfl, q1, q2⟩ := q.two
  cases q1; cases q2
  have e : (if j < i then j else i) = min i j := by omega
  exact sC_of (call_min2 hc) ⟨i, j, rfl, by rw [e]; exact k (.int _) (.dat (.int _)) B H μ I (Ex.refl B) (Dq.int _) h⟩
theorem ca_maxL {r : SV} {ns : List Int} (hc : X.calm = true) (h1 : LsQ r μ (ns.map Dt.int)) (h0 : 0 < ns.length) (h : ∀ m, m ∈ ns → (∀ y, y ∈ ns → y ≤ m) → R (.dat (.int m)) μ) : CaD X w (.builtin "max") [r] μ R := fun B H vs I q Q k => by
  obtain ⟨v, rfl, q1⟩ := q.one
  obtain ⟨a, as, rfl, ha, hx⟩ := ls_get I q1 h1
  have e := DqA.ints hx
  subst e
  exact sC_of (cr_max hc) ⟨a, ns, rfl, .inl (.inl ha), h0, fun m hm hle => k (.int m) (.dat (.int m)) B H μ I (Ex.refl B) (Dq.int _) (h m hm hle)⟩
theorem ca_lenL {r : SV} (h1 : LsQ r μ xs) (h : R (.dat (.int (xs.length : Int))) μ) : CaD X w (.builtin "len") [r] μ R := fun B H vs I q Q k => by
  obtain ⟨v, rfl, q1⟩ := q.one
  obtain ⟨a, as, rfl, ha, hx⟩ := ls_get I q1 h1
  exact sC_of call_len_seq ⟨a, as, rfl, .inl (.inl (.inl ha)), by rw [hx.length]; exact k (.int _) (.dat (.int _)) B H μ I (Ex.refl B) (Dq.int _) h⟩
theorem ca_lenT (h : R (.dat (.int (xs.length : Int))) μ) : CaD X w (.builtin "len") [.dat (.tup xs)] μ R := fun B H vs I q Q k => by
  obtain ⟨v, rfl, q1⟩ := q.one
  cases q1 with
  | @tup a as _ ha hx => exact sC_of call_len_seq ⟨a, as, rfl, .inr (.inl (.inl (I.bh _ _ ha))), by rw [hx.length]; exact k (.int _) (.dat (.int _)) B H μ I (Ex.refl B) (Dq.int _) h⟩
theorem ca_lenSc {a : Addr} {ns : List Int} (h : R (.dat (.int (ns.length : Int))) μ) : CaD X w (.builtin "len") [.sc X.K a ns] μ R := fun B H vs I q Q k => by
  obtain ⟨v, rfl, q1⟩ := q.one
  obtain ⟨rfl, sq⟩ := q1
  refine sC_of call_len_seq ⟨a, ns.map V.int, rfl, .inl ?_, by rw [show (ns.map V.int).length = ns.length from List.length_map _]; exact k (.int _) (.dat (.int _)) B H μ I (Ex.refl B) (Dq.int _) h⟩
  exact sq.elim (fun z => .inl (z.elim (fun q => .inl (I.bh _ _ q)) fun ⟨c, q⟩ => .inr ⟨c, I.bh _ _ q⟩)) .inr
theorem ca_lenS (hl : x.length ≤ sizeLine) (h : R (.dat (.int (x.length : Int))) μ) : CaD X w (.builtin "len") [.dat (.str x)] μ R := fun B H vs I q Q k => by
  obtain ⟨v, rfl, q1⟩ := q.one
  cases q1
  exact sC_of call_len_str ⟨x, rfl, hl, k (.int _) (.dat (.int _)) B H μ I (Ex.refl B) (Dq.int _) h⟩
theorem ca_all {r : SV} {bs : List Bool} (hc : X.calm = true) (h1 : LsQ r μ (bs.map Dt.bl)) (h : R (.dat (.bl (bs.all id))) μ) : CaD X w (.builtin "all") [r] μ R := fun B H vs I q Q k => by
  obtain ⟨v, rfl, q1⟩ := q.one
  obtain ⟨a, as, rfl, ha, hx⟩ := ls_get I q1 h1
  have e := DqA.bls hx
  subst e
  exact sC_of (cr_all hc) ⟨a, bs, rfl, .inl (.inl ha), k (.bl _) (.dat (.bl _)) B H μ I (Ex.refl B) (Dq.bl _) h⟩
theorem ca_listT (h : R (.dat (.lst xs)) μ) : CaD X w (.type "list") [.dat (.tup xs)] μ R := fun B H vs I q Q k => by
  obtain ⟨v, rfl, q1⟩ := q.one
  cases q1 with
  | @tup a as _ ha hx => exact sC_of call_list_of ⟨a, as, rfl, .inr (.inl (.inl (I.bh _ _ ha))), fun p hp => k (.ref p) (.dat (.lst xs)) _ _ μ (I.new hp _) (Ex.new (I.free hp).1) (Dq.lst upd_same (hx.mono (Ex.new (I.free hp).1))) h⟩
theorem ca_listL {r : SV} (h1 : LsQ r μ xs) (h : R (.dat (.lst xs)) μ) : CaD X w (.type "list") [r] μ R := fun B H vs I q Q k => by
  obtain ⟨v, rfl, q1⟩ := q.one
  obtain ⟨a, as, rfl, ha, hx⟩ := ls_get I q1 h1
  exact sC_of call_list_of ⟨a, as, rfl, .inl (.inl (.inl ha)), fun p hp => k (.ref p) (.dat (.lst xs)) _ _ μ (I.new hp _) (Ex.new (I.free hp).1) (Dq.lst upd_same (hx.mono (Ex.new (I.free hp).1))) h⟩
theorem ca_tupL {r : SV} (h1 : LsQ r μ xs) (h : R (.dat (.tup xs)) μ) : CaD X w (.type "tuple") [r] μ R := fun B H vs I q Q k => by
  obtain ⟨v, rfl, q1⟩ := q.one
  obtain ⟨a, as, rfl, ha, hx⟩ := ls_get I q1 h1
  exact sC_of call_tuple_of ⟨a, as, rfl, .inl ⟨.inl (.inl ha), fun p hp => k (.ref p) (.dat (.tup xs)) _ _ μ (I.new hp _) (Ex.new (I.free hp).1) (Dq.tup upd_same (hx.mono (Ex.new (I.free hp).1))) h⟩⟩
theorem ca_divmod (hj : 0 < j) (hj2 : j < 1073741824) (h : R (.dat (.tup [.int (i / j), .int (i % j)])) μ) : CaD X w (.builtin "divmod") [.dat (.int i), .dat (.int j)] μ R := fun B H vs I q Q k => by
  obtain ⟨v, u, rfl, q1, q2⟩ := q.two
  cases q1; cases q2
  exact sC_of call_divmod ⟨i, j, rfl, ⟨hj, hj2⟩, fun p hp => k (.ref p) (.dat (.tup [.int (i / j), .int (i % j)])) _ _ μ (I.new hp _) (Ex.new (I.free hp).1) (Dq.tup upd_same (DqA.ofInts [i / j, i % j])) h⟩

/-! ### isinstance -/
def tyD : Dt → String
  | .non => "NoneType" | .bl _ => "bool" | .int _ => "int" | .str _ => "str" | .lst _ => "list" | .tup _ => "tuple" | .dic _ _ => "dict" | .obj _ _ _ => "" | .err _ _ _ => ""
def isObj' : Dt → Bool
  | .obj _ _ _ => true
  | .err _ _ _ => true
  | _ => false
def isStr : Dt → Bool
  | .str _ => true
  | _ => false
def isInt : Dt → Bool
  | .int _ => true
  | .bl _ => true
  | _ => false
def isBl : Dt → Bool
  | .bl _ => true
  | _ => false
def isTup : Dt → Bool
  | .tup _ => true
  | _ => false
def isLst : Dt → Bool
  | .lst _ => true
  | _ => false
def isDic : Dt → Bool
  | .dic _ _ => true
  | _ => false
theorem Dq.ty {K : PySem.W.Frag} {B H : Hp} (e : Ex B H) {v : V} {d : Dt} (q : Dq B v d) (h : isObj' d = false) : TyX K H v (.type (tyD d)) := by
  cases q with
  | non => exact .base .non
  | bl b => exact .base (.bl b)
  | int i => exact .base (.int i)
  | str x => exact .base (.str x)
  | lst ha _ => exact .base (.lst (e _ _ ha))
  | tup ha _ => exact .base (.tup (e _ _ ha))
  | dic ha _ => exact .base (.dK (e _ _ ha))
  | obj _ _ => cases h
  | err _ _ _ => cases h
  | err0 _ => cases h
theorem ca_isi {d : Dt} {T : String} {b : Bool} (ho : isObj' d = false) (hk : kitB (tyD d) T = some b) (h : R (.dat (.bl b)) μ) : CaD X w (.builtin "isinstance") [.dat d, .ty T] μ R := fun B H vs I q Q k => by
  obtain ⟨v, u, rfl, q1, q2⟩ := q.two
  cases (show u = V.ty T from q2)
  exact sC_of call_isi ⟨v, .ty T, _, _, b, rfl, .ty T, Dq.ty I.bh q1 ho, kit_ty hk, k (.bl b) (.dat (.bl b)) B H μ I (Ex.refl B) (Dq.bl _) h⟩
theorem kit_str (d : Dt) (h : isObj' d = false) : kitB (tyD d) "str" = some (isStr d) := by
  cases d with
  | obj _ _ _ => simp [isObj'] at h
  | err _ _ _ => simp [isObj'] at h
  | non => exact (by decide +kernel : kitB "NoneType" "str" = some false)
  | bl _ => exact (by decide +kernel : kitB "bool" "str" = some false)
  | int _ => exact (by decide +kernel : kitB "int" "str" = some false)
  | str _ => exact (by decide +kernel : kitB "str" "str" = some true)
  | lst _ => exact (by decide +kernel : kitB "list" "str" = some false)
  | tup _ => exact (by decide +kernel : kitB "tuple" "str" = some false)
  | dic _ _ => exact (by decide +kernel : kitB "dict" "str" = some false)
theorem kit_int (d : Dt) (h : isObj' d = false) : kitB (tyD d) "int" = some (isInt d) := by
  cases d with
  | obj _ _ _ => simp [isObj'] at h
  | err _ _ _ => simp [isObj'] at h
  | non => exact (by decide +kernel : kitB "NoneType" "int" = some false)
  | bl _ => exact (by decide +kernel : kitB "bool" "int" = some true)
  | int _ => exact (by decide +kernel : kitB "int" "int" = some true)
  | str _ => exact (by decide +kernel : kitB "str" "int" = some false)
  | lst _ => exact (by decide +kernel : kitB "list" "int" = some false)
  | tup _ => exact (by decide +kernel : kitB "tuple" "int" = some false)
  | dic _ _ => exact (by decide +kernel : kitB "dict" "int" = some false)
theorem kit_bool (d : Dt) (h : isObj' d = false) : kitB (tyD d) "bool" = some (isBl d) := by
  cases d with
  | obj _ _ _ => simp [isObj'] at h
  | err _ _ _ => simp [isObj'] at h
  | non => exact (by decide +kernel : kitB "NoneType" "bool" = some false)
  | bl _ => exact (by decide +kernel : kitB "bool" "bool" = some true)
  | int _ => exact (by decide +kernel : kitB "int" "bool" = some false)
  | str _ => exact (by decide +kernel : kitB "str" "bool" = some false)
  | lst _ => exact (by decide +kernel : kitB "list" "bool" = some false)
  | tup _ => exact (by decide +kernel : kitB "tuple" "bool" = some false)
  | dic _ _ => exact (by decide +kernel : kitB "dict" "bool" = some false)
theorem kit_tuple (d : Dt) (h : isObj' d = false) : kitB (tyD d) "tuple" = some (isTup d) := by
  cases d with
  | obj _ _ _ => simp [isObj'] at h
  | err _ _ _ => simp [isObj'] at h
  | non => exact (by decide +kernel : kitB "NoneType" "tuple" = some false)
  | bl _ => exact (by decide +kernel : kitB "bool" "tuple" = some false)
  | int _ => exact (by decide +kernel : kitB "int" "tuple" = some false)
  | str _ => exact (by decide +kernel : kitB "str" "tuple" = some false)
  | lst _ => exact (by decide +kernel : kitB "list" "tuple" = some false)
  | tup _ => exact (by decide +kernel : kitB "tuple" "tuple" = some true)
  | dic _ _ => exact (by decide +kernel : kitB "dict" "tuple" = some false)
theorem kit_list (d : Dt) (h : isObj' d = false) : kitB (tyD d) "list" = some (isLst d) := by
  cases d with
  | obj _ _ _ => simp [isObj'] at h
  | err _ _ _ => simp [isObj'] at h
  | non => exact (by decide +kernel : kitB "NoneType" "list" = some false)
  | bl _ => exact (by decide +kernel : kitB "bool" "list" = some false)
  | int _ => exact (by decide +kernel : kitB "int" "list" = some false)
  | str _ => exact (by decide +kernel : kitB "str" "list" = some false)
  | lst _ => exact (by decide +kernel : kitB "list" "list" = some true)
  | tup _ => exact (by decide +kernel : kitB "tuple" "list" = some false)
  | dic _ _ => exact (by decide +kernel : kitB "dict" "list" = some false)
theorem kit_dict (d : Dt) (h : isObj' d = false) : kitB (tyD d) "dict" = some (isDic d) := by
  cases d with
  | obj _ _ _ => simp [isObj'] at h
  | err _ _ _ => simp [isObj'] at h
  | non => exact (by decide +kernel : kitB "NoneType" "dict" = some false)
  | bl _ => exact (by decide +kernel : kitB "bool" "dict" = some false)
  | int _ => exact (by decide +kernel : kitB "int" "dict" = some false)
  | str _ => exact (by decide +kernel : kitB "str" "dict" = some false)
  | lst _ => exact (by decide +kernel : kitB "list" "dict" = some false)
  | tup _ => exact (by decide +kernel : kitB "tuple" "dict" = some false)
  | dic _ _ => exact (by decide +kernel : kitB "dict" "dict" = some true)
/-! ### methods -/
theorem ty_lst {K : PySem.W.Frag} {r : SV} (h1 : LsQ r μ xs) : TyD K "list" r μ := fun w B H v I q => by
  obtain ⟨a, as, rfl, ha, hx⟩ := ls_get I q h1
  exact .inl ⟨rfl, as, .inl (.inl ha)⟩
theorem ty_str {K : PySem.W.Frag} : TyD K "str" (.dat (.str x)) μ := fun w B H v I q => by cases q; rfl
theorem mt_appendM {p : Addr} {d : Dt} (hm : μ p = some (.lst xs)) (hl : xs.length < 100000) (h : R (.dat .non) (μ.put p (.lst (xs ++ [d])))) : MtD X w "list.append" (.at p) [.dat d] μ R := fun B H v vs I q qs Q k => by
  obtain ⟨u, rfl, q1⟩ := qs.one
  cases (show v = V.ref p from q)
  obtain ⟨_, ⟨as, ha, hx⟩, _⟩ := I.mus p _ hm
  exact sM_of mt_append ⟨p, as, u, rfl, rfl, ha, Nat.lt_of_lt_of_le (by rw [hx.length]; exact hl) (by decide : 100000 ≤ sizeLine),
    k .non (.dat .non) B _ _ (I.set hm (.lst (xs ++ [d])) ⟨as ++ [u], upd_same, hx.snoc q1⟩) (Ex.refl B) Dq.non h⟩
end
end Dat

set_option Elab.async false
set_option linter.all false
set_option maxRecDepth 100000
set_option maxHeartbeats 4000000
/-! Dat7: more methods of texts; the law's call at the top, where no repr is under way. -/
namespace Dat
open PySem PySem.Spec PyProof.Rows L2
section
variable {P : Program} {w : World} {K : PySem.W.Frag} {mg mb : Str → Option Value} {k : Nat} {fa a : Addr} {fd : FuncData} {x : Str} {sp : Sp} {s₁ : Shared} {vs : List Value} {ns : List Int}
theorem top_core (KX : K.In s₁.heap) (g : s₁.heap.Ns mainGlobals mg) (b : s₁.heap.Ns builtinsNs mb) (bb : ∀ x : Str, x ≠ "__name__" → mb x = bootBuiltins x) (lim : s₁.heap.NoLimit) (gn : s₁.gens = #[])
    (ha : s₁.heap.get? a = some { cls := .type "list", data := .seq vs.toArray }) (hr : Room k callerA)
    (F : ∀ base : Heap, K.In base → base.Ns mainGlobals mg → FnG P w K mg base k fa fd [x] sp) (bd : ∀ (s : Shared) (u : Value), BindsTo s fd ⟨[u], []⟩ [(x, u)])
    (H : Hp) (ok : HOk P w H s₁.heap) (own : ∀ c, H c ≠ none → c = a ∧ K.lookup a = none) (fz : ∀ c u, H c = some u → ∃ o xs, u = .frz o (.lst xs)) (q : sp [.ref a] H (fun v _ => v = .bl true) fun _ _ _ => False) :
    codeAny (model P w) callerA (.call (.ref fa) ⟨[.ref a], []⟩) (fun r s' => r = .ok (.ret (.bool true)) ∧ OldK s₁.heap s'.heap ∧ s'.os = s₁.os ∧ AllBare s'.gens) s₁ := by
  have free_of : ∀ {c : Addr} {o : Obj}, s₁.heap.get? c = some o → (∀ z n, o.data ≠ .seq z n) → H c = none := fun {c o} e nd => by
    cases z : H c with
    | none => rfl
    | some u =>
      have e2 := (own c (by rw [z]; exact nofun)).1
      rw [e2, ha] at e
      cases e
      exact absurd rfl (nd _ _)
  have nsB : ∀ {c : Addr} {m : Str → Option Value}, s₁.heap.Ns c m → (hidT s₁.heap H).Ns c m := fun {c m} n => by
    obtain ⟨o, es, ep, e, d, r⟩ := n
    exact ⟨o, es, ep, hidT_get e (free_of e fun z n => by rw [d]; exact nofun), d, r⟩
  have inB : K.In (hidT s₁.heap H) := fun c o e => hidT_get (KX c o e) (by
    cases z : H c with
    | none => rfl
    | some u =>
      obtain ⟨e2, e3⟩ := own c (by rw [z]; exact nofun)
      rw [e2, e3] at e
      cases e)
  have md : Mod K mg (hidT s₁.heap H) := by
    obtain ⟨mc, l1, l2⟩ := lim
    exact { kin := inB, glob := nsB g, blt := ⟨mb, nsB b, bb⟩, nolimit := ⟨mc, nsB l1, l2⟩ }
  have en : Env0 P w K mg (hidT s₁.heap H) callerA [] s₁ H := { frames := rfl, mod := md, bs := fun c o e => of_hidT e, bsz := Nat.le_of_eq (hidT_size _ _), funs := trivial, frf := fun c z => (by cases z), hok := ok, bare := .of_eq gn }
  refine codeAny_mono ((F _ inB (nsB g)).run callerA [] s₁ H ⟨[.ref a], []⟩ [.ref a] [.ref a] _ _ hr rfl en (bd s₁ (.ref a)) (.cons rfl .nil) q) fun r s' h => ?_
  match r, h with
  | .error _, h => exact h.elim
  | .ok .next, h => exact h.elim
  | .ok .brk, h => exact h.elim
  | .ok .cont, h => exact h.elim
  | .ok (.ret u), ⟨v, H', os, bare, un, hok', rv, qv⟩ =>
    cases (show v = V.bl true from qv)
    cases (show u = Value.bool true from rv)
    refine ⟨rfl, OldK.of_keep fun c o e => ?_, os, bare⟩
    cases z : H c with
    | none => exact un.keep c o e z (fun z => by cases z) (fun z => by cases z)
    | some y =>
      obtain ⟨ob, xs, rfl⟩ := fz c y z
      have e1 := (ok c _ z).1
      have e2 := (hok' c _ (un.frzs c ob _ z)).1
      rw [e] at e1
      cases e1
      exact e2
/-- the goal that k_head leaves -/
theorem walk_data {l : PySem.W.OpenLaw} {n : Nat} {q : Program} {loose : List Str} {XP : (Str → Option Value) → Heap → Prop} {YP : World → Heap → Prop} {d : DefRec} {KF : Params → PySem.W.Frag} {SP : PySem.W.Frag → Sp}
    (hn : l.most = some n) (hn2 : n ≤ sizeLine) (hdf : d.params.defaults = []) (hr : Room k callerA) (hY : ∀ (w : World) (h : Heap), YP w h → (KF w.params).In h)
    (F : ∀ (w : World) (mg : Str → Option Value) (fa : Addr) (h : Heap), (KF w.params).In h → h.Ns mainGlobals mg → mg d.name = some (.ref fa) →
      ∃ fd : FuncData, (∀ (s : Shared) (u : Value), BindsTo s fd ⟨[u], []⟩ [(x, u)]) ∧ ∀ base : Heap, (KF w.params).In base → base.Ns mainGlobals mg → FnG l.prog w (KF w.params) mg base k fa fd [x] (SP (KF w.params)))
    (hsp : ∀ (K : PySem.W.Frag) (H : Hp) (a : Addr) (ns : List Int), ns.length ≤ n → SqL K H a (ns.map V.int) → SP K [.ref a] H (fun v _ => v = .bl true) fun _ _ _ => False) :
    PySem.W.WalkO q loose XP YP l.row.toRowW d [] (fun f vs => PySem.call f vs) := by
  refine Att.attach_call hn hdf fun w s₀ s₁ mg mb fa o pm cd doc a vs ns G Y ho hd hcd hmg hobj hints hlen hg => ?_
  have KX := hY w _ Y
  obtain ⟨fd, bd, FF⟩ := F w mg fa _ KX G.T.g hmg
  have rv := vals_ints hints
  have hl : (ns.map V.int).length ≤ sizeLine := by rw [List.length_map]; exact Nat.le_trans hlen hn2
  cases hk : (KF w.params).lookup a with
  | some ob =>
    have e := KX a ob hk
    rw [hobj] at e
    cases e
    refine top_core KX G.T.g G.T.b G.T.builtins G.T.nolimit hg hobj hr FF bd (fun _ => none) (fun c u z => nomatch z) (fun c z => absurd rfl z) (fun c u z => nomatch z) (hsp _ _ a ns hlen (.inr ⟨_, vs.toArray, _, hk, rfl, rfl, rfl, ?_, by simpa using rv⟩))
    rw [List.size_toArray, ← rv.length]
    exact hl
  | none =>
    refine top_core KX G.T.g G.T.b G.T.builtins G.T.nolimit hg hobj hr FF bd (fun c => if c = a then some (.frz { cls := .type "list", data := .seq vs.toArray } (.lst (ns.map V.int))) else none) (fun c u z => ?_) (fun c z => ?_) (fun c u z => ?_) (hsp _ _ a ns hlen (.inl (.inr ⟨_, if_pos rfl⟩)))
    · by_cases e : c = a
      · have z' := (if_pos e).symm.trans z
        cases z'
        subst e
        exact ⟨hobj, hl, vs, _, rv, hobj⟩
      · have z' := (if_neg e).symm.trans z
        cases z'
    · by_cases e : c = a
      · exact ⟨e, hk⟩
      · exact absurd (if_neg e) z
    · by_cases e : c = a
      · have z' := (if_pos e).symm.trans z
        cases z'; exact ⟨_, _, rfl⟩
      · have z' := (if_neg e).symm.trans z
        cases z'
end
end Dat

set_option Elab.async false
set_option linter.all false
set_option maxRecDepth 100000
set_option maxHeartbeats 4000000
/-! Dat8: names by themselves, built-ins by their names, own defs packed. -/
namespace Dat
open PySem PySem.Spec PyProof.Rows L2
def idx : List Str → Str → Nat
  | [], _ => 0
  | y :: ys, x => if x = y then 0 else idx ys x + 1
section
variable {X : Cx} {w : Wd} {ρ : List SV} {μ : Mus} {R : SV → Mus → Prop} {e : Expr} {es : List Expr} {pos p : Pos} {x : Str}
theorem de_nm {r : SV} (hr : ρ[idx X.N x]? = some r) (h : R r μ) (hne : r ≠ .no := by exact nofun) (hN : X.N[idx X.N x]? = some x := by rfl)
    (hv : Vis X.env.scope x := by first | exact Or.inl rfl | exact Or.inr (Or.inl rfl) | exact Or.inr (Or.inr rfl)) (hd : (x == ("__debug__" : Str)) = false := by decide)
    (hcd : (x == ("__classdict__" : Str)) = false := by decide) : DE X w (.Name x pos) ρ μ R := de_name (idx X.N x) hr h hne hN hv hd hcd
/-- a built-in class as a value -/
theorem de_tyv {T : String} (hm : X.mg x = none) (hv : bootBuiltins x = some (.type T)) (h : R (.ty T) μ) (hg : Gl X x := by rfl) (hn : x ≠ "__name__" := by decide) (hd : (x == ("__debug__" : Str)) = false := by decide) : DE X w (.Name x pos) ρ μ R := fun σ B H _ I Q k =>
  tE_of (pe_bltn (v := .ty T) hg hm hv rfl hn hd) (k (.ty T) (.ty T) B H μ I (Ex.refl B) rfl h)
theorem de_ty_int (hm : X.mg "int" = none) (h : R (.ty "int") μ) (hg : Gl X "int" := by rfl) : DE X w (.Name "int" pos) ρ μ R := de_tyv hm (by decide +kernel) h hg
theorem de_ty_str (hm : X.mg "str" = none) (h : R (.ty "str") μ) (hg : Gl X "str" := by rfl) : DE X w (.Name "str" pos) ρ μ R := de_tyv hm (by decide +kernel) h hg
theorem de_ty_bool (hm : X.mg "bool" = none) (h : R (.ty "bool") μ) (hg : Gl X "bool" := by rfl) : DE X w (.Name "bool" pos) ρ μ R := de_tyv hm (by decide +kernel) h hg
theorem de_ty_tuple (hm : X.mg "tuple" = none) (h : R (.ty "tuple") μ) (hg : Gl X "tuple" := by rfl) : DE X w (.Name "tuple" pos) ρ μ R := de_tyv hm (by decide +kernel) h hg
theorem de_ty_list (hm : X.mg "list" = none) (h : R (.ty "list") μ) (hg : Gl X "list" := by rfl) : DE X w (.Name "list" pos) ρ μ R := de_tyv hm (by decide +kernel) h hg
theorem de_ty_dict (hm : X.mg "dict" = none) (h : R (.ty "dict") μ) (hg : Gl X "dict" := by rfl) : DE X w (.Name "dict" pos) ρ μ R := de_tyv hm (by decide +kernel) h hg
theorem de_isinstance (ha : DA X w (e :: es) ρ μ fun rs μ1 => CaD X w (.builtin "isinstance") rs μ1 R) (hm : X.mg "isinstance" = none) (hg : Gl X "isinstance" := by rfl)
    (he : starEach (e :: es) X.env = (false, eval e X.env) :: starEach es X.env := by rfl) (hpl : (backTo pos (starEach es X.env)).any (·.1) = false := by rfl) : DE X w (.Call (.Name "isinstance" p) (e :: es) [] pos) ρ μ R :=
  de_callB ha hm (by decide +kernel) hg (by decide) (by decide) he hpl
theorem de_len (ha : DA X w (e :: es) ρ μ fun rs μ1 => CaD X w (.builtin "len") rs μ1 R) (hm : X.mg "len" = none) (hg : Gl X "len" := by rfl)
    (he : starEach (e :: es) X.env = (false, eval e X.env) :: starEach es X.env := by rfl) (hpl : (backTo pos (starEach es X.env)).any (·.1) = false := by rfl) : DE X w (.Call (.Name "len" p) (e :: es) [] pos) ρ μ R :=
  de_callB ha hm (by decide +kernel) hg (by decide) (by decide) he hpl
theorem de_max (ha : DA X w (e :: es) ρ μ fun rs μ1 => CaD X w (.builtin "max") rs μ1 R) (hm : X.mg "max" = none) (hg : Gl X "max" := by rfl)
    (he : starEach (e :: es) X.env = (false, eval e X.env) :: starEach es X.env := by rfl) (hpl : (backTo pos (starEach es X.env)).any (·.1) = false := by rfl) : DE X w (.Call (.Name "max" p) (e :: es) [] pos) ρ μ R :=
  de_callB ha hm (by decide +kernel) hg (by decide) (by decide) he hpl
theorem de_min (ha : DA X w (e :: es) ρ μ fun rs μ1 => CaD X w (.builtin "min") rs μ1 R) (hm : X.mg "min" = none) (hg : Gl X "min" := by rfl)
    (he : starEach (e :: es) X.env = (false, eval e X.env) :: starEach es X.env := by rfl) (hpl : (backTo pos (starEach es X.env)).any (·.1) = false := by rfl) : DE X w (.Call (.Name "min" p) (e :: es) [] pos) ρ μ R :=
  de_callB ha hm (by decide +kernel) hg (by decide) (by decide) he hpl
theorem de_all (ha : DA X w (e :: es) ρ μ fun rs μ1 => CaD X w (.builtin "all") rs μ1 R) (hm : X.mg "all" = none) (hg : Gl X "all" := by rfl)
    (he : starEach (e :: es) X.env = (false, eval e X.env) :: starEach es X.env := by rfl) (hpl : (backTo pos (starEach es X.env)).any (·.1) = false := by rfl) : DE X w (.Call (.Name "all" p) (e :: es) [] pos) ρ μ R :=
  de_callB ha hm (by decide +kernel) hg (by decide) (by decide) he hpl
theorem de_any (ha : DA X w (e :: es) ρ μ fun rs μ1 => CaD X w (.builtin "any") rs μ1 R) (hm : X.mg "any" = none) (hg : Gl X "any" := by rfl)
    (he : starEach (e :: es) X.env = (false, eval e X.env) :: starEach es X.env := by rfl) (hpl : (backTo pos (starEach es X.env)).any (·.1) = false := by rfl) : DE X w (.Call (.Name "any" p) (e :: es) [] pos) ρ μ R :=
  de_callB ha hm (by decide +kernel) hg (by decide) (by decide) he hpl
theorem de_repr (ha : DA X w (e :: es) ρ μ fun rs μ1 => CaD X w (.builtin "repr") rs μ1 R) (hm : X.mg "repr" = none) (hg : Gl X "repr" := by rfl)
    (he : starEach (e :: es) X.env = (false, eval e X.env) :: starEach es X.env := by rfl) (hpl : (backTo pos (starEach es X.env)).any (·.1) = false := by rfl) : DE X w (.Call (.Name "repr" p) (e :: es) [] pos) ρ μ R :=
  de_callB ha hm (by decide +kernel) hg (by decide) (by decide) he hpl
theorem de_divmod (ha : DA X w (e :: es) ρ μ fun rs μ1 => CaD X w (.builtin "divmod") rs μ1 R) (hm : X.mg "divmod" = none) (hg : Gl X "divmod" := by rfl)
    (he : starEach (e :: es) X.env = (false, eval e X.env) :: starEach es X.env := by rfl) (hpl : (backTo pos (starEach es X.env)).any (·.1) = false := by rfl) : DE X w (.Call (.Name "divmod" p) (e :: es) [] pos) ρ μ R :=
  de_callB ha hm (by decide +kernel) hg (by decide) (by decide) he hpl
theorem de_sorted (ha : DA X w (e :: es) ρ μ fun rs μ1 => CaD X w (.builtin "sorted") rs μ1 R) (hm : X.mg "sorted" = none) (hg : Gl X "sorted" := by rfl)
    (he : starEach (e :: es) X.env = (false, eval e X.env) :: starEach es X.env := by rfl) (hpl : (backTo pos (starEach es X.env)).any (·.1) = false := by rfl) : DE X w (.Call (.Name "sorted" p) (e :: es) [] pos) ρ μ R :=
  de_callB ha hm (by decide +kernel) hg (by decide) (by decide) he hpl
theorem de_sum (ha : DA X w (e :: es) ρ μ fun rs μ1 => CaD X w (.builtin "sum") rs μ1 R) (hm : X.mg "sum" = none) (hg : Gl X "sum" := by rfl)
    (he : starEach (e :: es) X.env = (false, eval e X.env) :: starEach es X.env := by rfl) (hpl : (backTo pos (starEach es X.env)).any (·.1) = false := by rfl) : DE X w (.Call (.Name "sum" p) (e :: es) [] pos) ρ μ R :=
  de_callB ha hm (by decide +kernel) hg (by decide) (by decide) he hpl
theorem de_clist (ha : DA X w (e :: es) ρ μ fun rs μ1 => CaD X w (.type "list") rs μ1 R) (hm : X.mg "list" = none) (hg : Gl X "list" := by rfl)
    (he : starEach (e :: es) X.env = (false, eval e X.env) :: starEach es X.env := by rfl) (hpl : (backTo pos (starEach es X.env)).any (·.1) = false := by rfl) : DE X w (.Call (.Name "list" p) (e :: es) [] pos) ρ μ R :=
  de_callT ha hm (by decide +kernel) hg (by decide) (by decide) he hpl
theorem de_ctuple (ha : DA X w (e :: es) ρ μ fun rs μ1 => CaD X w (.type "tuple") rs μ1 R) (hm : X.mg "tuple" = none) (hg : Gl X "tuple" := by rfl)
    (he : starEach (e :: es) X.env = (false, eval e X.env) :: starEach es X.env := by rfl) (hpl : (backTo pos (starEach es X.env)).any (·.1) = false := by rfl) : DE X w (.Call (.Name "tuple" p) (e :: es) [] pos) ρ μ R :=
  de_callT ha hm (by decide +kernel) hg (by decide) (by decide) he hpl
theorem de_cint (ha : DA X w (e :: es) ρ μ fun rs μ1 => CaD X w (.type "int") rs μ1 R) (hm : X.mg "int" = none) (hg : Gl X "int" := by rfl)
    (he : starEach (e :: es) X.env = (false, eval e X.env) :: starEach es X.env := by rfl) (hpl : (backTo pos (starEach es X.env)).any (·.1) = false := by rfl) : DE X w (.Call (.Name "int" p) (e :: es) [] pos) ρ μ R :=
  de_callT ha hm (by decide +kernel) hg (by decide) (by decide) he hpl
theorem de_cstr (ha : DA X w (e :: es) ρ μ fun rs μ1 => CaD X w (.type "str") rs μ1 R) (hm : X.mg "str" = none) (hg : Gl X "str" := by rfl)
    (he : starEach (e :: es) X.env = (false, eval e X.env) :: starEach es X.env := by rfl) (hpl : (backTo pos (starEach es X.env)).any (·.1) = false := by rfl) : DE X w (.Call (.Name "str" p) (e :: es) [] pos) ρ μ R :=
  de_callT ha hm (by decide +kernel) hg (by decide) (by decide) he hpl
theorem de_cdict (ha : DA X w (e :: es) ρ μ fun rs μ1 => CaD X w (.type "dict") rs μ1 R) (hm : X.mg "dict" = none) (hg : Gl X "dict" := by rfl)
    (he : starEach (e :: es) X.env = (false, eval e X.env) :: starEach es X.env := by rfl) (hpl : (backTo pos (starEach es X.env)).any (·.1) = false := by rfl) : DE X w (.Call (.Name "dict" p) (e :: es) [] pos) ρ μ R :=
  de_callT ha hm (by decide +kernel) hg (by decide) (by decide) he hpl
theorem de_cbool (ha : DA X w (e :: es) ρ μ fun rs μ1 => CaD X w (.type "bool") rs μ1 R) (hm : X.mg "bool" = none) (hg : Gl X "bool" := by rfl)
    (he : starEach (e :: es) X.env = (false, eval e X.env) :: starEach es X.env := by rfl) (hpl : (backTo pos (starEach es X.env)).any (·.1) = false := by rfl) : DE X w (.Call (.Name "bool" p) (e :: es) [] pos) ρ μ R :=
  de_callT ha hm (by decide +kernel) hg (by decide) (by decide) he hpl
end

/-! ### own defs -/
theorem undat_len : ∀ {rs : List SV} {ds : List Dt}, undat rs = some ds → rs.length = ds.length
  | [], _, e => by cases e; rfl
  | r :: rs, ds, e => by
    cases r with
    | no => cases e
    | «at» p => cases e
    | ty n => cases e
    | sc K a ns => cases e
    | tys ns => cases e
    | dat d =>
      unfold undat at e
      cases e2 : undat rs with
      | none => rw [e2] at e; cases e
      | some ds' => rw [e2] at e; cases e; rw [List.length_cons, List.length_cons, undat_len e2]
theorem undat_map : ∀ {rs : List SV} {ds : List Dt}, undat rs = some ds → rs = ds.map SV.dat
  | [], _, e => by cases e; rfl
  | r :: rs, ds, e => by
    cases r with
    | no => cases e
    | «at» p => cases e
    | ty n => cases e
    | sc K a ns => cases e
    | tys ns => cases e
    | dat d =>
      unfold undat at e
      cases e2 : undat rs with
      | none => rw [e2] at e; cases e
      | some ds' => rw [e2] at e; cases e; rw [List.map_cons, ← undat_map e2]
/-- a pure def: of data, data -/
def PSp (ok : List Dt → Prop) (res : List Dt → Dt → Prop) : Sp := GSp (fun rs _ => ∃ ds, undat rs = some ds ∧ ok ds) (fun rs μ r μ' => ∀ ds, undat rs = some ds → ∃ d, r = .dat d ∧ res ds d ∧ μ' = μ)
/-- one that draws from the pot -/
def QSp (ok : List Dt → Prop) (res : List Dt → Dt → Prop) : Sp := GSp (fun rs μ => ∃ p rs' ds, rs = .at p :: rs' ∧ undat rs' = some ds ∧ μ p = some .pot ∧ ok ds) (fun rs μ r μ' => ∀ p rs' ds, rs = .at p :: rs' → undat rs' = some ds → ∃ d, r = .dat d ∧ res ds d ∧ μ' = μ)
structure Own (P : Program) (w : World) (K : PySem.W.Frag) (mg : Str → Option Value) (base : Heap) (x : Str) (k : Nat) (sp : Sp) : Prop where
  ex : ∃ f fd ps, FnG P w K mg base k f fd ps sp ∧ mg x = some (.ref f) ∧ PySem.W.keepIn K (.ref f) = true ∧ Binds K fd ps []
section
variable {P : Program} {wd : World} {K : PySem.W.Frag} {mg : Str → Option Value} {base : Heap} {x qual : Str} {st : Stmt} {f : Addr} {fd : FuncData} {N ps : List Str} {k : Nat}
theorem fn_pure {ok : List Dt → Prop} {res : List Dt → Dt → Prop} (F : Fun K x qual st f fd) (S : FnScope N ps (defScope st)) (hl : ∀ ds, ok ds → ds.length = ps.length)
    (body : ∀ (cdv : Value) (A : Around) (outer : List Env) (s : Shared) (H : Hp), Room k (bx P wd K mg base N qual st f cdv A outer s H).A → (bx P wd K mg base N qual st f cdv A outer s H).A.guards = some [] → ∀ w ds μ, ok ds →
      DSs (bx P wd K mg base N qual st f cdv A outer s H) w (defBody st) (ds.map SV.dat ++ List.replicate (N.length - (ds.map SV.dat).length) .no) μ { nx := fun _ _ => False, rt := fun r μ' => ∃ d, r = .dat d ∧ res ds d ∧ μ.Sub μ' }) :
    FnG P wd K mg base (k + 1) f fd ps (PSp ok res) := by
  refine fn_ok F S (fun rs μ ⟨ds, e, h⟩ => by rw [undat_len e]; exact hl ds h) fun cdv A outer s H hr hg w rs μ ⟨ds, e, h⟩ => ?_
  have b := body cdv A outer s H hr hg w ds μ h
  rw [← undat_map e] at b
  intro σ B H' S' I D E
  refine b σ B H' S' I D ⟨fun _ _ _ _ _ _ _ _ z => z.elim, fun v r B2 H2 μ2 I2 e2 q ⟨d, h1, h2, h3⟩ => E.rt v r B2 H2 μ2 I2 e2 q ⟨μ, h3, fun ds' e' => ?_⟩, E.bk, E.ct⟩
  rw [e] at e'
  cases e'
  exact ⟨d, h1, h2, rfl⟩
theorem fn_pot {ok : List Dt → Prop} {res : List Dt → Dt → Prop} (F : Fun K x qual st f fd) (S : FnScope N ps (defScope st)) (hl : ∀ ds, ok ds → ds.length + 1 = ps.length)
    (body : ∀ (cdv : Value) (A : Around) (outer : List Env) (s : Shared) (H : Hp), Room k (bx P wd K mg base N qual st f cdv A outer s H).A → (bx P wd K mg base N qual st f cdv A outer s H).A.guards = some [] → ∀ w p ds μ, μ p = some .pot → ok ds →
      DSs (bx P wd K mg base N qual st f cdv A outer s H) w (defBody st) (.at p :: ds.map SV.dat ++ List.replicate (N.length - (.at p :: ds.map SV.dat).length) .no) μ { nx := fun _ _ => False, rt := fun r μ' => ∃ d, r = .dat d ∧ res ds d ∧ μ.Sub μ' }) :
    FnG P wd K mg base (k + 1) f fd ps (QSp ok res) := by
  refine fn_ok F S (fun rs μ ⟨p, rs', ds, e0, e, _, h⟩ => by rw [e0, List.length_cons, undat_len e]; exact hl ds h) fun cdv A outer s H hr hg w rs μ ⟨p, rs', ds, e0, e, hm, h⟩ => ?_
  have b := body cdv A outer s H hr hg w p ds μ hm h
  rw [← undat_map e, ← e0] at b
  intro σ B H' S' I D E
  refine b σ B H' S' I D ⟨fun _ _ _ _ _ _ _ _ z => z.elim, fun v r B2 H2 μ2 I2 e2 q ⟨d, h1, h2, h3⟩ => E.rt v r B2 H2 μ2 I2 e2 q ⟨μ, h3, fun p' rs2 ds' e3 e' => ?_⟩, E.bk, E.ct⟩
  rw [e0] at e3
  cases e3
  rw [e] at e'
  cases e'
  exact ⟨d, h1, h2, rfl⟩
end
section
variable {X : Cx} {w : Wd} {ρ : List SV} {μ : Mus} {R : SV → Mus → Prop} {e : Expr} {es : List Expr} {x : Str} {p pos : Pos} {k j : Nat}
theorem de_own {pre : List SV → Mus → Prop} {post : List SV → Mus → SV → Mus → Prop} (O : Own X.prog X.w X.K X.mg X.base x k (GSp pre post)) (hr : Room j X.A) (hkj : k ≤ j) (hgd : X.A.guards = some [])
    (ha : DA X w (e :: es) ρ μ fun rs μ1 => pre rs μ1 ∧ ∀ r μ2, post rs μ1 r μ2 → R r μ2) (hg : Gl X x := by rfl) (hdb : (x == ("__debug__" : Str)) = false := by decide)
    (he : starEach (e :: es) X.env = (false, eval e X.env) :: starEach es X.env := by rfl) (hpl : (backTo pos (starEach es X.env)).any (·.1) = false := by rfl) : DE X w (.Call (.Name x p) (e :: es) [] pos) ρ μ R := by
  obtain ⟨f, fd, ps, F, hm, hk, hb⟩ := O.ex
  exact de_call F (hr.mono hkj) hgd hm hk hb ha hg hdb he hpl
theorem DA.imp {T T' : List SV → Mus → Prop} (h : DA X w es ρ μ T') (k : ∀ rs μ', T' rs μ' → T rs μ') : DA X w es ρ μ T := fun σ B H S I Q q => h σ B H S I Q fun vs rs B' H' μ' I' e' s' z => q vs rs B' H' μ' I' e' s' (k rs μ' z)
theorem de_pure {ok : List Dt → Prop} {res : List Dt → Dt → Prop} (O : Own X.prog X.w X.K X.mg X.base x k (PSp ok res)) (hr : Room j X.A) (hkj : k ≤ j) (hgd : X.A.guards = some [])
    (ha : DA X w (e :: es) ρ μ fun rs μ1 => ∃ ds, undat rs = some ds ∧ ok ds ∧ ∀ d, res ds d → R (.dat d) μ1) (hg : Gl X x := by rfl) (hdb : (x == ("__debug__" : Str)) = false := by decide)
    (he : starEach (e :: es) X.env = (false, eval e X.env) :: starEach es X.env := by rfl) (hpl : (backTo pos (starEach es X.env)).any (·.1) = false := by rfl) : DE X w (.Call (.Name x p) (e :: es) [] pos) ρ μ R :=
  de_own O hr hkj hgd (ha.imp fun rs μ1 ⟨ds, h1, h2, h3⟩ => ⟨⟨ds, h1, h2⟩, fun r μ2 q => by
    obtain ⟨d, rfl, h4, rfl⟩ := q ds h1
    exact h3 d h4⟩) hg hdb he hpl
theorem de_pot {ok : List Dt → Prop} {res : List Dt → Dt → Prop} (O : Own X.prog X.w X.K X.mg X.base x k (QSp ok res)) (hr : Room j X.A) (hkj : k ≤ j) (hgd : X.A.guards = some [])
    (ha : DA X w (e :: es) ρ μ fun rs μ1 => ∃ q rs' ds, rs = .at q :: rs' ∧ undat rs' = some ds ∧ μ1 q = some .pot ∧ ok ds ∧ ∀ d, res ds d → R (.dat d) μ1) (hg : Gl X x := by rfl) (hdb : (x == ("__debug__" : Str)) = false := by decide)
    (he : starEach (e :: es) X.env = (false, eval e X.env) :: starEach es X.env := by rfl) (hpl : (backTo pos (starEach es X.env)).any (·.1) = false := by rfl) : DE X w (.Call (.Name x p) (e :: es) [] pos) ρ μ R :=
  de_own O hr hkj hgd (ha.imp fun rs μ1 ⟨p, rs', ds, h0, h1, hm, h2, h3⟩ => ⟨⟨p, rs', ds, h0, h1, hm, h2⟩, fun r μ2 q => by
    obtain ⟨d, rfl, h4, rfl⟩ := q p rs' ds h0 h1
    exact h3 d h4⟩) hg hdb he hpl
end
end Dat

set_option Elab.async false
set_option linter.all false
set_option maxRecDepth 100000
set_option maxHeartbeats 4000000
/-! Dat9: data of bounded size may be shown. -/
namespace Dat
open PySem PySem.Spec PyProof.Rows L2
theorem textFrom_le : ∀ (ts : List Str) (k : Nat) (acc : Str), (textFrom k acc ts).length ≤ acc.length + piled ts
  | [], k, acc => by simp [textFrom, piled]
  | t :: r, k, acc => by
    have ih := textFrom_le r (k + 1) (acc ++ (if k > 0 then ", " else "" : String) ++ t)
    have e : (acc ++ (if k > 0 then ", " else "" : String) ++ t).length ≤ acc.length + 2 + t.length := by
      rw [strLen_append, strLen_append]
      have : ((if k > 0 then ", " else "" : String) : Str).length ≤ 2 := by split <;> decide
      omega
    have p : piled (t :: r) = t.length + 2 + piled r := by simp [piled]
    show (textFrom (k + 1) _ r).length ≤ _
    rw [p]; omega
theorem listText_le (ts : List Str) : (listText ts).length ≤ piled ts + 2 := by
  unfold listText
  rw [strLen_append]
  have h := textFrom_le ts 0 "["
  have e1 : (("[" : String) : Str).length = 1 := rfl
  have e2 : (("]" : String) : Str).length = 1 := rfl
  rw [e1] at h; rw [e2]; omega
theorem join_le (ts : List Str) : (Str.join ", " ts).length ≤ piled ts := by
  by_cases h : ts = []
  · subst h; decide
  · have := join_length_add ts h; omega
theorem tupleText_le (ts : List Str) : (tupleText ts).length ≤ piled ts + 3 := by
  unfold tupleText
  rw [strLen_append, strLen_append]
  have h := join_le ts
  have e1 : (("(" : String) : Str).length = 1 := rfl
  have e2 : ((if ts.length == 1 then ",)" else ")" : String) : Str).length ≤ 2 := by split <;> decide
  rw [e1]; omega
theorem dictText_le (ts : List Str) : (dictText ts).length ≤ piled ts + 2 := by
  unfold dictText
  rw [strLen_append, strLen_append]
  have h := join_le ts
  have e1 : (("{" : String) : Str).length = 1 := rfl
  have e2 : (("}" : String) : Str).length = 1 := rfl
  rw [e1, e2]; omega
theorem piled_le {L : Nat} : ∀ (ts : List Str), (∀ t ∈ ts, t.length ≤ L) → piled ts ≤ ts.length * (L + 2)
  | [], _ => by simp [piled]
  | t :: r, h => by
    have ih := piled_le r fun u hu => h u (List.mem_cons_of_mem _ hu)
    have p : piled (t :: r) = t.length + 2 + piled r := by simp [piled]
    have := h t List.mem_cons_self
    rw [p, List.length_cons, Nat.succ_mul]; omega
theorem reprChar_le (q c : Nat) (hq : q = 34 ∨ q = 39) (hc : c < 256) : (Builtin.Str.reprChar q c).length ≤ 4 := by
  have h : ∀ c : Fin 256, (Builtin.Str.reprChar 34 c.val).length ≤ 4 ∧ (Builtin.Str.reprChar 39 c.val).length ≤ 4 := by decide +kernel
  rcases hq with rfl | rfl
  · exact (h ⟨c, hc⟩).1
  · exact (h ⟨c, hc⟩).2
theorem reprText_le (x : Str) (h : ∀ c ∈ x.cps.toList, c < 256) : (reprText x).length ≤ 4 * x.length + 2 := by
  rw [← reprLen_eq, ← Array.foldl_toList]
  have hq : reprQuote x = 34 ∨ reprQuote x = 39 := by unfold reprQuote; split <;> simp
  have : ∀ (l : List Nat) (n : Nat), (∀ c ∈ l, c < 256) → l.foldl (fun n c => n + (Builtin.Str.reprChar (reprQuote x) c).length) n ≤ n + 4 * l.length := by
    intro l
    induction l with
    | nil => intro n _; simp
    | cons c l ih =>
      intro n hl
      have h1 := ih (n + (Builtin.Str.reprChar (reprQuote x) c).length) fun d hd => hl d (List.mem_cons_of_mem _ hd)
      have h2 := reprChar_le (reprQuote x) c hq (hl c List.mem_cons_self)
      rw [List.foldl_cons, List.length_cons]; omega
  have z := this x.cps.toList 2 h
  have e : x.cps.toList.length = x.length := by rw [Array.length_toList]; rfl
  rw [e] at z; omega
/-- of bounded size: texts of S signs, M items, so deep -/
def fine (S M : Nat) : Nat → Dt → Prop
  | _, .non => True
  | _, .bl _ => True
  | _, .int i => i.natAbs < 10 ^ 30
  | _, .str x => x.length ≤ S ∧ ∀ c ∈ x.cps.toList, c < 256
  | n + 1, .lst xs => xs.length ≤ M ∧ ∀ d, d ∈ xs → fine S M n d
  | n + 1, .tup xs => xs.length ≤ M ∧ ∀ d, d ∈ xs → fine S M n d
  | n + 1, .dic ks vs => ks.length ≤ 4 ∧ (∀ d, d ∈ ks → fine S M n d) ∧ ∀ d, d ∈ vs → fine S M n d
  | _, _ => False
def fineL (S M : Nat) : Nat → Nat
  | 0 => 4 * S + 40
  | n + 1 => (M + 8) * (fineL S M n + 4) + 3
theorem fine_int {S M : Nat} {i : Int} : ∀ n, i.natAbs < 10 ^ 30 → fine S M n (.int i)
  | 0, h => h
  | _ + 1, h => h
theorem fine_str {S M : Nat} {x : Str} : ∀ n, (x.length ≤ S ∧ ∀ c ∈ x.cps.toList, c < 256) → fine S M n (.str x)
  | 0, h => h
  | _ + 1, h => h
theorem fine_non {S M : Nat} : ∀ n, fine S M n .non
  | 0 => trivial
  | _ + 1 => trivial
theorem fine_bl {S M : Nat} {b : Bool} : ∀ n, fine S M n (.bl b)
  | 0 => trivial
  | _ + 1 => trivial
theorem fine_up {S M : Nat} : ∀ (n : Nat) (d : Dt), fine S M n d → fine S M (n + 1) d
  | _, .non, _ => trivial
  | _, .bl _, _ => trivial
  | 0, .int _, h => h
  | _ + 1, .int _, h => h
  | 0, .str _, h => h
  | _ + 1, .str _, h => h
  | n + 1, .lst xs, h => ⟨h.1, fun d hd => fine_up n d (h.2 d hd)⟩
  | n + 1, .tup xs, h => ⟨h.1, fun d hd => fine_up n d (h.2 d hd)⟩
  | n + 1, .dic ks vs, h => ⟨h.1, fun d hd => fine_up n d (h.2.1 d hd), fun d hd => fine_up n d (h.2.2 d hd)⟩
  | 0, .lst _, h => h.elim
  | 0, .tup _, h => h.elim
  | 0, .dic _ _, h => h.elim
  | 0, .obj _ _ _, h => h.elim
  | 0, .err _ _ _, h => h.elim
  | _ + 1, .obj _ _ _, h => h.elim
  | _ + 1, .err _ _ _, h => h.elim
theorem shownAll_map : ∀ ds : List PyData, PyData.shownAll ds = ds.map PyData.shown
  | [] => by simp [PyData.shownAll]
  | d :: ds => by simp [PyData.shownAll, shownAll_map ds]
theorem fineL_scal (S M n : Nat) : 4 * S + 40 ≤ fineL S M n := by
  induction n with
  | zero => exact Nat.le_refl _
  | succ n ih =>
    show _ ≤ (M + 8) * (fineL S M n + 4) + 3
    have : fineL S M n + 4 ≤ (M + 8) * (fineL S M n + 4) := Nat.le_mul_of_pos_left _ (by omega)
    omega
theorem int_len {i : Int} (h : i.natAbs < 10 ^ 30) : (Str.ofString (toString i)).length ≤ 31 := by
  rw [PySem.ofString_length]
  exact int_text_length_le10 (k := 30) (by decide) h
theorem zip_kv : ∀ (ks vs : List PyData), PyData.shownKv (ks.zip vs) = (ks.zip vs).map fun kv => (kv.1.shown ++ ((": " : String) : Str) ++ kv.2.shown : Str)
  | [], _ => by simp [PyData.shownKv]
  | _ :: _, [] => by simp [PyData.shownKv]
  | k :: ks, v :: vs => by simp [PyData.shownKv, zip_kv ks vs]
theorem fine_len {S M : Nat} : ∀ (n : Nat) (d : Dt), fine S M n d → (toPy d).shown.length ≤ fineL S M n
  | n, .non, _ => by
    have := fineL_scal S M n
    simp only [toPy, PyData.shown]
    have e : (("None" : String) : Str).length = 4 := rfl
    rw [e]; omega
  | n, .bl b, _ => by
    have := fineL_scal S M n
    simp only [toPy, PyData.shown]
    have e : ((if b then "True" else "False" : String) : Str).length ≤ 5 := by cases b <;> decide
    cases b
    · have e : (("False" : String) : Str).length = 5 := rfl
      simp only [Bool.false_eq_true, if_false]
      rw [e]; omega
    · have e : (("True" : String) : Str).length = 4 := rfl
      simp only [if_true]
      rw [e]; omega
  | n, .int i, h => by
    have := fineL_scal S M n
    have h' : i.natAbs < 10 ^ 30 := by cases n <;> exact h
    simp only [toPy, PyData.shown]
    have := int_len h'
    omega
  | n, .str x, h => by
    have := fineL_scal S M n
    have h' : x.length ≤ S ∧ ∀ c ∈ x.cps.toList, c < 256 := by cases n <;> exact h
    simp only [toPy, PyData.shown]
    have := reprText_le x h'.2
    omega
  | n + 1, .lst xs, h => by
    simp only [toPy, PyData.shown, toPyA_map, shownAll_map, List.map_map]
    have q := piled_le (L := fineL S M n) (xs.map (PyData.shown ∘ toPy)) fun t ht => by
      obtain ⟨d, hd, rfl⟩ := List.mem_map.mp ht
      exact fine_len n d (h.2 d hd)
    have z := listText_le (xs.map (PyData.shown ∘ toPy))
    rw [List.length_map] at q
    have m := Nat.mul_le_mul_right (fineL S M n + 2) h.1
    have e : (M + 8) * (fineL S M n + 4) = M * (fineL S M n + 2) + 2 * M + 8 * (fineL S M n + 4) := by rw [Nat.add_mul, Nat.mul_add M, Nat.mul_add M]; omega
    show _ ≤ (M + 8) * (fineL S M n + 4) + 3
    omega
  | n + 1, .tup xs, h => by
    simp only [toPy, PyData.shown, toPyA_map, shownAll_map, List.map_map]
    have q := piled_le (L := fineL S M n) (xs.map (PyData.shown ∘ toPy)) fun t ht => by
      obtain ⟨d, hd, rfl⟩ := List.mem_map.mp ht
      exact fine_len n d (h.2 d hd)
    have z := tupleText_le (xs.map (PyData.shown ∘ toPy))
    rw [List.length_map] at q
    have m := Nat.mul_le_mul_right (fineL S M n + 2) h.1
    have e : (M + 8) * (fineL S M n + 4) = M * (fineL S M n + 2) + 2 * M + 8 * (fineL S M n + 4) := by rw [Nat.add_mul, Nat.mul_add M, Nat.mul_add M]; omega
    show _ ≤ (M + 8) * (fineL S M n + 4) + 3
    omega
  | n + 1, .dic ks vs, h => by
    simp only [toPy, PyData.shown, toPyA_map, zip_kv]
    have q := piled_le (L := 2 * fineL S M n + 2) (((ks.map toPy).zip (vs.map toPy)).map fun kv => kv.1.shown ++ ": " ++ kv.2.shown) fun t ht => by
      obtain ⟨⟨a, b⟩, hd, rfl⟩ := List.mem_map.mp ht
      obtain ⟨h1, h2⟩ := List.of_mem_zip hd
      obtain ⟨x, hx, rfl⟩ := List.mem_map.mp h1
      obtain ⟨y, hy, rfl⟩ := List.mem_map.mp h2
      have q1 := fine_len n x (h.2.1 x hx)
      have q2 := fine_len n y (h.2.2 y hy)
      show ((toPy x).shown ++ ": " ++ (toPy y).shown).length ≤ _
      rw [strLen_append, strLen_append]
      have e : ((": " : String) : Str).length = 2 := rfl
      rw [e]; omega
    have z := dictText_le (((ks.map toPy).zip (vs.map toPy)).map fun kv => kv.1.shown ++ ": " ++ kv.2.shown)
    rw [List.length_map, List.length_zip, List.length_map, List.length_map] at q
    have l4 : min ks.length vs.length ≤ 4 := Nat.le_trans (Nat.min_le_left _ _) h.1
    have m := Nat.mul_le_mul_right (2 * fineL S M n + 2 + 2) l4
    have e : (M + 8) * (fineL S M n + 4) = M * (fineL S M n + 4) + 8 * (fineL S M n + 4) := by rw [Nat.add_mul]
    show _ ≤ (M + 8) * (fineL S M n + 4) + 3
    omega
  | 0, .lst _, h => h.elim
  | 0, .tup _, h => h.elim
  | 0, .dic _ _, h => h.elim
  | 0, .obj _ _ _, h => h.elim
  | 0, .err _ _ _, h => h.elim
  | _ + 1, .obj _ _ _, h => h.elim
  | _ + 1, .err _ _ _, h => h.elim
theorem showsAll_of : ∀ (xs : List Dt), (∀ d, d ∈ xs → (toPy d).showable = true) → PyData.showableAll (toPyA xs) = true
  | [], _ => by simp [toPyA, PyData.showableAll]
  | x :: xs, h => by rw [toPyA, PyData.showableAll, h x List.mem_cons_self, showsAll_of xs fun d hd => h d (List.mem_cons_of_mem _ hd)]; rfl
theorem deepAll_of {n : Nat} : ∀ (xs : List Dt), (∀ d, d ∈ xs → (toPy d).depth ≤ n) → PyData.depthAll (toPyA xs) ≤ n
  | [], _ => by simp [toPyA, PyData.depthAll]
  | x :: xs, h => by
    rw [toPyA, PyData.depthAll]
    exact Nat.max_le.mpr ⟨h x List.mem_cons_self, deepAll_of xs fun d hd => h d (List.mem_cons_of_mem _ hd)⟩
theorem plainAll_of : ∀ (xs : List Dt), (∀ d, d ∈ xs → plain d = true) → plainA xs = true
  | [], _ => by simp [plainA]
  | x :: xs, h => by rw [plainA, h x List.mem_cons_self, plainAll_of xs fun d hd => h d (List.mem_cons_of_mem _ hd)]; rfl
theorem showsKv_of : ∀ (ks vs : List Dt), (∀ d, d ∈ ks → (toPy d).showable = true) → (∀ d, d ∈ vs → (toPy d).showable = true) → PyData.showableKv ((toPyA ks).zip (toPyA vs)) = true
  | [], _, _, _ => by simp [toPyA, PyData.showableKv]
  | _ :: _, [], _, _ => by simp [toPyA, PyData.showableKv]
  | k :: ks, v :: vs, h1, h2 => by
    rw [toPyA, toPyA, List.zip_cons_cons, PyData.showableKv, h1 k List.mem_cons_self, h2 v List.mem_cons_self, showsKv_of ks vs (fun d hd => h1 d (List.mem_cons_of_mem _ hd)) fun d hd => h2 d (List.mem_cons_of_mem _ hd)]; rfl
theorem deepKv_of {n : Nat} : ∀ (ks vs : List Dt), (∀ d, d ∈ ks → (toPy d).depth ≤ n) → (∀ d, d ∈ vs → (toPy d).depth ≤ n) → PyData.depthKv ((toPyA ks).zip (toPyA vs)) ≤ n
  | [], _, _, _ => by simp [toPyA, PyData.depthKv]
  | _ :: _, [], _, _ => by simp [toPyA, PyData.depthKv]
  | k :: ks, v :: vs, h1, h2 => by
    rw [toPyA, toPyA, List.zip_cons_cons, PyData.depthKv]
    exact Nat.max_le.mpr ⟨Nat.max_le.mpr ⟨h1 k List.mem_cons_self, h2 v List.mem_cons_self⟩, deepKv_of ks vs (fun d hd => h1 d (List.mem_cons_of_mem _ hd)) fun d hd => h2 d (List.mem_cons_of_mem _ hd)⟩
theorem fine_rest {S M : Nat} : ∀ (n : Nat) (d : Dt), fine S M n d → (toPy d).showable = true ∧ (toPy d).depth ≤ n ∧ plain d = true
  | n, .non, _ => by simp [toPy, PyData.showable, PyData.depth, plain]
  | n, .bl b, _ => by simp [toPy, PyData.showable, PyData.depth, plain]
  | n, .int i, h => by
    have h' : i.natAbs < 10 ^ 30 := by cases n <;> exact h
    refine ⟨?_, by simp [toPy, PyData.depth], by simp [plain]⟩
    simp only [toPy, PyData.showable, decide_eq_true_eq]
    by_cases z : i.natAbs = 0
    · rw [z]; decide
    · exact (Nat.log2_lt z).mpr (Nat.lt_trans h' (by decide))
  | n, .str x, _ => by simp [toPy, PyData.showable, PyData.depth, plain]
  | n + 1, .lst xs, h => by
    simp only [toPy, PyData.showable, PyData.depth, plain]
    exact ⟨showsAll_of xs fun d hd => (fine_rest n d (h.2 d hd)).1, Nat.succ_le_succ (deepAll_of xs fun d hd => (fine_rest n d (h.2 d hd)).2.1), plainAll_of xs fun d hd => (fine_rest n d (h.2 d hd)).2.2⟩
  | n + 1, .tup xs, h => by
    simp only [toPy, PyData.showable, PyData.depth, plain]
    exact ⟨showsAll_of xs fun d hd => (fine_rest n d (h.2 d hd)).1, Nat.succ_le_succ (deepAll_of xs fun d hd => (fine_rest n d (h.2 d hd)).2.1), plainAll_of xs fun d hd => (fine_rest n d (h.2 d hd)).2.2⟩
  | n + 1, .dic ks vs, h => by
    simp only [toPy, PyData.showable, PyData.depth, plain]
    exact ⟨showsKv_of ks vs (fun d hd => (fine_rest n d (h.2.1 d hd)).1) fun d hd => (fine_rest n d (h.2.2 d hd)).1, Nat.succ_le_succ (deepKv_of ks vs (fun d hd => (fine_rest n d (h.2.1 d hd)).2.1) fun d hd => (fine_rest n d (h.2.2 d hd)).2.1), plainAll_of vs fun d hd => (fine_rest n d (h.2.2 d hd)).2.2⟩
  | 0, .lst _, h => h.elim
  | 0, .tup _, h => h.elim
  | 0, .dic _ _, h => h.elim
  | 0, .obj _ _ _, h => h.elim
  | 0, .err _ _ _, h => h.elim
  | _ + 1, .obj _ _ _, h => h.elim
  | _ + 1, .err _ _ _, h => h.elim
mutual
def hasDic : Dt → Bool
  | .lst xs => hasDicA xs | .tup xs => hasDicA xs | .dic _ _ => true | _ => false
def hasDicA : List Dt → Bool
  | [] => false
  | d :: ds => hasDic d || hasDicA ds
end
mutual
theorem hasDic_py : ∀ d : Dt, (toPy d).hasDict = hasDic d
  | .non => by simp [toPy, PyData.hasDict, hasDic]
  | .bl _ => by simp [toPy, PyData.hasDict, hasDic]
  | .int _ => by simp [toPy, PyData.hasDict, hasDic]
  | .str _ => by simp [toPy, PyData.hasDict, hasDic]
  | .lst xs => by simp [toPy, PyData.hasDict, hasDic, hasDicA_py xs]
  | .tup xs => by simp [toPy, PyData.hasDict, hasDic, hasDicA_py xs]
  | .dic _ _ => by simp [toPy, PyData.hasDict, hasDic]
  | .obj _ _ _ => by simp [toPy, PyData.hasDict, hasDic]
  | .err _ _ _ => by simp [toPy, PyData.hasDict, hasDic]
theorem hasDicA_py : ∀ ds : List Dt, PyData.hasDictAll (toPyA ds) = hasDicA ds
  | [] => by simp [toPyA, PyData.hasDictAll, hasDicA]
  | d :: ds => by simp [toPyA, PyData.hasDictAll, hasDicA, hasDic_py d, hasDicA_py ds]
end
theorem fine_shown {S M n : Nat} {d : Dt} (h : fine S M n d) (hl : fineL S M n ≤ 16777216) (hn : n ≤ 60) (h1 : hasDic d = true → hasLst d = false) : Shown d := by
  obtain ⟨a, b, c⟩ := fine_rest n d h
  exact ⟨c, fun z => h1 (by rw [← hasDic_py]; exact z), a, Nat.le_trans (fine_len n d h) (by rw [sizeLine_eq]; exact hl), Nat.le_trans b hn⟩
end Dat

set_option Elab.async false
set_option linter.all false
set_option maxRecDepth 100000
set_option maxHeartbeats 4000000
/-! Dat10: comprehensions told by their items; texts joined. -/
namespace Dat
open PySem PySem.Spec PyProof.Rows L2
section
variable {X : Cx} {w : Wd} {ρ : List SV} {μ : Mus} {R : SV → Mus → Prop} {elt c : Expr} {scope : Scope} {j : Nat} {items : List Dt}
/-- [f x for x in items] -/
theorem lc_map (f : Dt → Dt) (hl : items.length ≤ 100000) (h : ∀ d, d ∈ items → ∀ w' k, DE (BX X scope k) w' elt (ρ.set j (.dat d)) μ fun r μ' => r = .dat (f d) ∧ μ' = μ) (hR : R (.dat (.lst (items.map f))) μ) : LcAsk X scope elt [] ρ j R items μ := by
  refine ⟨hl, fun n acc μ' => μ' = μ ∧ acc = (items.take n).map f, ⟨rfl, by simp⟩, ?_, ?_⟩
  · rintro n acc d μ2 hd _ ⟨rfl, rfl⟩ w' k
    refine dq_nil ⟨fun _ kc => (h d (List.mem_of_getElem? hd) w' kc).imp fun r μ' ⟨h1, h2⟩ => ⟨f d, h1, h2, ?_⟩, nofun⟩
    rw [List.take_add_one, hd, List.map_append]
    rfl
  · rintro acc μ' ⟨rfl, rfl⟩ _
    rw [List.take_length]
    exact hR
/-- [f x for x in items if p x] -/
theorem lc_filter (f : Dt → Dt) (p : Dt → Bool) (hl : items.length ≤ 100000) (hc : ∀ d, d ∈ items → ∀ w' k, DT (BX X scope k) w' c (ρ.set j (.dat d)) μ fun b μ' => b = p d ∧ μ' = μ)
    (h : ∀ d, d ∈ items → p d = true → ∀ w' k, DE (BX X scope k) w' elt (ρ.set j (.dat d)) μ fun r μ' => r = .dat (f d) ∧ μ' = μ) (hR : R (.dat (.lst ((items.filter p).map f))) μ) : LcAsk X scope elt [c] ρ j R items μ := by
  refine ⟨hl, fun n acc μ' => μ' = μ ∧ acc = ((items.take n).filter p).map f, ⟨rfl, by simp⟩, ?_, ?_⟩
  · rintro n acc d μ2 hd _ ⟨rfl, rfl⟩ w' k
    have hm := List.mem_of_getElem? hd
    have tk : items.take (n + 1) = items.take n ++ [d] := by rw [List.take_add_one, hd]; rfl
    refine dq_one ((hc d hm w' k).imp fun b μ3 ⟨hb, e⟩ => ?_)
    subst e
    refine ⟨fun t kc => (h d hm (by rw [← hb]; exact t) w' kc).imp fun r μ' ⟨h1, h2⟩ => ⟨f d, h1, h2, ?_⟩, fun t => ⟨rfl, ?_⟩⟩
    · rw [tk, List.filter_append, List.map_append, List.filter_cons, ← hb, if_pos t]; rfl
    · rw [tk, List.filter_append, List.filter_cons, ← hb, if_neg (by rw [t]; decide)]; simp
  · rintro acc μ' ⟨rfl, rfl⟩ _
    rw [List.take_length]
    exact hR
/-- elements of which T holds, each item giving one -/
theorem lc_some (T : Dt → Prop) (hl : items.length ≤ 100000) (h : ∀ d, d ∈ items → ∀ w' k, DE (BX X scope k) w' elt (ρ.set j (.dat d)) μ fun r μ' => ∃ d', r = .dat d' ∧ T d' ∧ μ' = μ)
    (hR : ∀ acc, acc.length = items.length → (∀ d, d ∈ acc → T d) → R (.dat (.lst acc)) μ) : LcAsk X scope elt [] ρ j R items μ := by
  refine ⟨hl, fun n acc μ' => μ' = μ ∧ acc.length = (items.take n).length ∧ ∀ d, d ∈ acc → T d, ⟨rfl, by simp, by simp⟩, ?_, ?_⟩
  · rintro n acc d μ2 hd _ ⟨rfl, hlen, hT⟩ w' k
    refine dq_nil ⟨fun _ kc => (h d (List.mem_of_getElem? hd) w' kc).imp fun r μ' ⟨d', h1, h2, h3⟩ => ⟨d', h1, h3, ?_, ?_⟩, nofun⟩
    · rw [List.take_add_one, hd, List.length_append, List.length_append, hlen]; rfl
    · intro y hy
      rcases List.mem_append.mp hy with e | e
      · exact hT y e
      · rw [List.mem_singleton.mp e]; exact h2
  · rintro acc μ' ⟨rfl, hlen, hT⟩ _
    rw [List.take_length] at hlen
    exact hR acc hlen hT
theorem signs_mem {z : Str} {d : Dt} (h : d ∈ signs z) : ∃ c, c ∈ z.cps.toList ∧ d = .str ⟨#[c]⟩ := by
  obtain ⟨c, h1, h2⟩ := List.mem_map.mp h
  exact ⟨c, h1, h2.symm⟩
theorem signs_len (z : Str) : (signs z).length = z.length := by
  unfold signs
  rw [List.length_map, Array.length_toList]; rfl
theorem lt_sign (a b : Nat) : decide ([a] < [b]) = decide (a < b) := by
  rw [Bool.eq_iff_iff, decide_eq_true_eq, decide_eq_true_eq]
  constructor
  · intro h
    cases h with
    | rel h => exact h
    | cons h => cases h
  · intro h
    exact .rel h
end
section
variable {X : Cx} {w : Wd} {ρ : List SV} {μ : Mus} {R : SV → Mus → Prop} {o e : Expr} {apos pos : Pos}
theorem de_join (ho : DE X w o ρ μ fun r μ1 => ∃ a, r = .dat (.str a) ∧ DE X w e ρ μ1 fun r2 μ2 => ∃ ys : List Str, LsQ r2 μ2 (ys.map Dt.str) ∧ (ys.map (·.length)).sum + ys.length * a.length ≤ 16777216 ∧ R (.dat (.str (Txt.join a ys))) μ2)
    (hs : starEach [e] X.env = [(false, eval e X.env)] := by rfl) (hbase : attributeBase o "join" X.env (eval o X.env) = eval o X.env := by rfl) (hline : (apos.endLine == pos.line) = true := by rfl) : DE X w (.Call (.Attribute o "join" apos) [e] [] pos) ρ μ R := fun σ B H S I Q k =>
  tE_of (pe_join pe_self pe_self hs hbase hline) (ho σ B H S I _ fun v r B1 H1 μ1 I1 e1 q1 h1 => by
    obtain ⟨a, rfl, h1⟩ := h1
    cases q1
    refine ⟨⟨a, rfl⟩, h1 σ B1 H1 (S.mono e1) I1 _ fun v2 r2 B2 H2 μ2 I2 e2 q2 h2 => ?_⟩
    obtain ⟨ys, hl, hz, h2⟩ := h2
    obtain ⟨p, xs, rfl, hp, hx⟩ := ls_get I2 q2 hl
    have ev := DqA.strs hx
    subst ev
    exact ⟨a, p, ys, rfl, rfl, .inl (.inl (.inl hp)), hz, k _ (.dat (.str (Txt.join a ys))) B2 H2 μ2 I2 (e1.trans e2) (Dq.str _) h2⟩)
theorem de_upper (ho : DE X w o ρ μ fun r μ1 => ∃ a, r = .dat (.str a) ∧ a.length ≤ 5592405 ∧ R (.dat (.str (Txt.upper a))) μ1)
    (hbase : attributeBase o "upper" X.env (eval o X.env) = eval o X.env := by rfl) (hline : (apos.endLine == pos.line) = true := by rfl) : DE X w (.Call (.Attribute o "upper" apos) [] [] pos) ρ μ R := fun σ B H S I Q k =>
  tE_of (pe_upper pe_self hbase hline) (ho σ B H S I _ fun v r B1 H1 μ1 I1 e1 q1 h1 => by
    obtain ⟨a, rfl, hl, h1⟩ := h1
    cases q1
    exact ⟨⟨a, rfl⟩, a, rfl, rfl, hl, k _ (.dat (.str (Txt.upper a))) B1 H1 μ1 I1 e1 (Dq.str _) h1⟩)
theorem op_mulS {x : Str} {n : Int} (hok : MulOk x n) (h : R (.dat (.str (Txt.mul x n))) μ) : OpD X w (binaryOp .Mult) (.dat (.str x)) (.dat (.int n)) μ R := fun B H v u I q1 q2 Q k pins s σ a b J ra rb => by
  cases q1; cases q2
  obtain ⟨t, rfl⟩ := ra
  obtain ⟨t', rfl⟩ := rb
  exact SB.mul hok fun t2 k2 => ⟨.str _, H, J.tok _, ⟨_, rfl⟩, k _ (.dat (.str (Txt.mul x n))) B H μ I (Ex.refl B) (Dq.str _) h⟩
/-- a dict of one text key -/
theorem de_dict0 (h : R (.dat (.dic [] [])) μ) : DE X w (.Dict [] [] pos) ρ μ R := fun σ B H S I Q k =>
  tE_of pe_dnewK fun p hp => k (.ref p) (.dat (.dic [] [])) _ _ μ (I.new hp _) (Ex.new (I.free hp).1) (Dq.dic (kvs := []) upd_same .nil) h
theorem de_dict1 {ke ve : Expr} (h : ∀ w', DE X w' ke ρ μ fun r μ1 => ∃ x, r = .dat (.str x) ∧ DE X w' ve ρ μ1 fun r2 μ2 => ∃ d, r2 = .dat d ∧ R (.dat (.dic [.str x] [d])) μ2) : DE X w (.Dict [some ke] [ve] pos) ρ μ R := fun σ B H S I Q k =>
  tE_of (pe_disp (pps_cons pe_self pe_self pps_nil) rfl rfl (by simp) (by simp)) fun p hp => by
    -- the new dict is made ahead of what it holds: a world begins here
    obtain ⟨bp, mp, wp⟩ := I.free hp
    have I0 : SInv w B (upd H p (.dK [])) μ := I.own bp wp mp _
    have J0 : SInv ⟨B, upd H p (.dK []), fun q => μ q ≠ none⟩ B (upd H p (.dK [])) μ := SInv.start I0.bh fun q o z => ⟨(I0.mus q o z).1, (I0.mus q o z).2.1⟩
    refine h _ σ B _ S J0 _ fun v r B1 H1 μ1 I1 e1 q1 h1 => ?_
    obtain ⟨x, rfl, h1⟩ := h1
    cases q1
    refine h1 σ B1 H1 (S.mono e1) I1 _ fun v2 r2 B2 H2 μ2 I2 e2 q2 h2 => ?_
    obtain ⟨d, rfl, h2⟩ := h2
    have hH : H2 p = some (.dK []) := I2.keep p _ (fun z => z mp) upd_same
    have hB : B2 p = none := I2.out p (show upd H p (.dK []) p ≠ none by rw [upd_same]; exact nofun) bp
    have hM : μ2 p = none := by
      cases z : μ2 p with
      | none => rfl
      | some o =>
        rcases (I2.mus p o z).2.2 with c | c
        · exact absurd mp c
        · have c' : upd H p (.dK []) p = none := c
          rw [upd_same] at c'; cases c'
    refine ⟨hH, [(Sum.inr x, v2)], rfl, by simp, ?_⟩
    have I3 := ((I0.back I2).own hB wp hM (.dK (mergeK [] [(Sum.inr x, v2)]))).told hB wp hM upd_same
    exact k (.ref p) (.dat (.dic [.str x] [d])) _ _ μ2 I3 ((e1.trans e2).trans (Ex.new hB)) (Dq.dic (kvs := [(Sum.inr x, v2)]) upd_same (DqA.one ((show Dq B2 v2 d from q2).mono (Ex.new hB)))) h2
end
end Dat

set_option Elab.async false
set_option linter.all false
set_option maxRecDepth 100000
set_option maxHeartbeats 4000000
/-! Dat11: defs that may raise one of their own errors (without a field); try and except over data. -/
namespace Dat
open PySem PySem.Spec PyProof.Rows L2
theorem Sto.drop {B : Hp} {σ : L2.St} {ρ : List SV} (S : Sto B σ ρ) (i : Nat) : Sto B (σ.set i none) (ρ.set i .no) := ⟨by rw [List.length_set, List.length_set, S.len], fun j u hj => by
  by_cases e : i = j
  · subst e
    by_cases hl : i < ρ.length
    · rw [List.getElem?_set_self hl] at hj
      exact .inl (Option.some.inj hj).symm
    · rw [List.getElem?_eq_none (by rw [List.length_set]; omega)] at hj
      cases hj
  · rw [List.getElem?_set_ne e] at hj
    rcases S.get j u hj with h | ⟨v, h1, h2⟩
    · exact .inl h
    · exact .inr ⟨v, by rw [List.getElem?_set_ne e]; exact h1, h2⟩⟩
structure FnX (P : Program) (w : World) (K : PySem.W.Frag) (mg : Str → Option Value) (base : Heap) (k : Nat) (f : Addr) (fd : FuncData) (ps : List Str) (sp : Sp) : Prop where
  len : ∀ vs H Q E, sp vs H Q E → vs.length = ps.length
  run : ∀ (A : Around) (outer : List Env) (s : Shared) (H : Hp) (args : Args) (us : List Value) (vs : List V) (Q : VK) (E : XK), Room k A → A.guards = some [] → Env0 P w K mg base A outer s H → BindsTo s fd args (ps.zip us) → Vals vs us → sp vs H Q E →
    codeAny (model P w) A (.call (.ref f) args) (CR (L2.CX P w) outer P w H s Q E) s
/-- pre of the arguments, post of the answer, or the error C where exc holds -/
def XSp (C : Addr) (pre : List SV → Mus → Prop) (post : List SV → Mus → SV → Mus → Prop) (exc : List SV → Mus → Prop) : Sp := fun vs H Q E => ∃ B rs μ, SvA B vs rs ∧ Ex B H ∧ (∀ p o, μ p = some o → B p = none ∧ MoOk B H p o) ∧ pre rs μ ∧
  (∀ v r B' H' μ', SInv ⟨B, H, fun p => μ p ≠ none⟩ B' H' μ' → Svq B' v r → post rs μ r μ' → Q v H') ∧ (exc rs μ → ∀ B' H', SInv ⟨B, H, fun p => μ p ≠ none⟩ B' H' μ → E (.ref C) none H')
section
variable {P : Program} {wd : World} {K : PySem.W.Frag} {mg : Str → Option Value} {base : Heap}
abbrev bxx (P : Program) (wd : World) (K : PySem.W.Frag) (mg : Str → Option Value) (base : Heap) (N : List Str) (qual : Str) (st : Stmt) (f : Addr) (cdv : Value) (A : Around) (outer : List Env) (s : Shared) (H : Hp) (E : XK) : Cx :=
  cxOf (L2.CX P wd) P wd K mg base N qual (defScope st) f cdv A outer s H E
theorem fnx_ok {C : Addr} {x qual : Str} {st : Stmt} {f : Addr} {fd : FuncData} {N ps : List Str} {k : Nat} {pre : List SV → Mus → Prop} {post : List SV → Mus → SV → Mus → Prop} {exc : List SV → Mus → Prop} (F : Fun K x qual st f fd) (S : FnScope N ps (defScope st))
    (len : ∀ rs μ, pre rs μ → rs.length = ps.length)
    (body : ∀ (cdv : Value) (A : Around) (outer : List Env) (s : Shared) (H : Hp) (E : XK), Room k (bxx P wd K mg base N qual st f cdv A outer s H E).A → (bxx P wd K mg base N qual st f cdv A outer s H E).A.guards = some [] → ∀ w rs μ, pre rs μ →
      (exc rs μ → ∀ B' H' μ', μ.Sub μ' → SInv w B' H' μ' → E (.ref C) none H') →
      DSs (bxx P wd K mg base N qual st f cdv A outer s H E) w (defBody st) (rs ++ List.replicate (N.length - rs.length) .no) μ { nx := fun _ μ' => ∃ ν, ν.Sub μ' ∧ post rs μ (.dat .non) ν, rt := fun r μ' => ∃ ν, ν.Sub μ' ∧ post rs μ r ν }) :
    FnX P wd K mg base (k + 1) f fd ps (XSp C pre post exc) := by
  have len' : ∀ vs H Q E, XSp C pre post exc vs H Q E → vs.length = ps.length := fun vs H Q E h => by
    obtain ⟨B, rs, μ, h1, _, _, h2, _⟩ := h
    rw [h1.length]; exact len rs μ h2
  obtain ⟨oc, od, kV, doc, pm, an, cdv, ct, osl, rfl, lk, hcd⟩ := F.ex
  refine ⟨len', fun A outer s H args us vs Q E hr hg en hb rv hsp => ?_⟩
  have inK : K.In s.heap := en.mod.kin.keeps fun b o z => (en.bs b o z).1
  refine codeAny_call_function hr.depth (inK _ _ lk) rfl S.co S.gen rfl (PySem.W.codeRec_of inK hcd) (hb _ _ _ _ (wpAny_newFunctionEnv_cells S.kind ?_ fun env he s1 hx => ?_))
  · rintro ⟨n, v⟩ hy
    have q := S.par n (List.of_mem_zip hy).1
    exact q.imp id fun z => ⟨z, PySem.W.cellsFrom_some _ _ _ (.inl z)⟩
  · subst he
    refine ⟨(en.mod.nolimit.keeps fun b o z => (en.bs b o z).1).keeps hx.toInCall.keep, codeAny_func ?_⟩
    have I0 := inv_start (CX := L2.CX P wd) (qual := qual) (f := f) (cd := cdv) (E := E) S hr.hd en (len' _ _ _ _ hsp) rv hx
    obtain ⟨B, rs, μ, q1, q2, q3, q4, q5, q6⟩ := id hsp
    have b0 := body cdv A outer s H E (hr.deeper _) hg ⟨B, H, fun p => μ p ≠ none⟩ rs μ q4 (fun he B' H' μ' sb J => q6 he B' H' (J.sub sb)) (L2.start N vs) B H (start_sto q1) (SInv.start q2 q3) { nx := fun _ H' => Q .non H', rt := Q }
      ⟨fun _ B' H' _ μ' _ J _ ⟨ν, hν, h⟩ => q5 .non (.dat .non) B' H' ν (J.sub hν) Dq.non h, fun v r B' H' μ' J _ q ⟨ν, hν, h⟩ => q5 v r B' H' ν (J.sub hν) q h, fun _ _ _ _ _ _ _ _ h => h.elim, fun _ _ _ _ _ _ _ _ h => h.elim⟩
    refine wpAny_mono (b0 [] s1 I0) (fun fl s' hs => ?_) fun _ _ hs => hs
    have done : ∀ {σ' : L2.St} {H' : Hp} {v : V} {u : Value}, Inv (bxx P wd K mg base N qual st f cdv A outer s H E) [] σ' H' s' → RelV v u → Q v H' → CE outer P wd H s Q u s' := fun {σ' H' v u} J rv q => ⟨v, H', J.os, J.bare, J.base, J.hok, rv, q⟩
    cases fl with
    | ret u => obtain ⟨v, σ', H', J, rv, q⟩ := hs; exact done J rv q
    | next => obtain ⟨σ', H', J, q⟩ := hs; exact done (v := V.non) (u := Value.none) J rfl q
    | brk => obtain ⟨_, _, _, q⟩ := hs; exact q.elim
    | cont => obtain ⟨_, _, _, q⟩ := hs; exact q.elim
end
section
variable {X : Cx} {w : Wd} {ρ : List SV} {μ : Mus} {R : SV → Mus → Prop} {P : Po} {e : Expr} {es : List Expr} {x : Str} {p pos : Pos} {k : Nat} {f C : Addr} {fd : FuncData} {ps : List Str} {W : WX}
/-- a call that may raise C -/
theorem de_callX {pre : List SV → Mus → Prop} {post : List SV → Mus → SV → Mus → Prop} {exc : List SV → Mus → Prop} (F : FnX X.prog X.w X.K X.mg X.base k f fd ps (XSp C pre post exc)) (tk : Takes X W) (hr : Room k X.A) (hgd : X.A.guards = some []) (hm : X.mg x = some (.ref f)) (hk : PySem.W.keepIn X.K (.ref f) = true) (hb : Binds X.K fd ps [])
    (ha : DA X w (e :: es) ρ μ fun rs μ1 => pre rs μ1 ∧ (∀ r μ2, post rs μ1 r μ2 → R r μ2) ∧ (exc rs μ1 → ∀ σ B H, Sto B σ ρ → SInv w B H μ1 → W (.ref C) none σ H)) (hg : Gl X x := by rfl) (hdb : (x == ("__debug__" : Str)) = false := by decide)
    (he : starEach (e :: es) X.env = (false, eval e X.env) :: starEach es X.env := by rfl) (hpl : (backTo pos (starEach es X.env)).any (·.1) = false := by rfl) : DE X w (.Call (.Name x p) (e :: es) [] pos) ρ μ R := fun σ B H S I Q kk pins s J => by
  refine wpAny_Call_Name_kw (ld_glob J hg hm ?_ hdb)
  refine PySem.W.callWith_K (h₀ := X.base) J.ok.mod.kin hk (thn ((pa_self (X := X) (es := e :: es)).run pos pins s σ H _ J (ha σ B H S I
    (fun vs H1 => ∀ us s1, Inv X pins σ H1 s1 → Vals vs us → wpAny (model X.prog X.w) X.A (call (.ref f) us) (EP X pins σ Q) X.xe s1) ?_)) fun us s1 ⟨vs, H1, J1, rv, q⟩ => ⟨J1.kIn, q us s1 J1 rv⟩) he hpl
  intro vs rs B1 H1 μ1 I1 e1 q1 h1 us s1 J1 rv
  have hsp : XSp C pre post exc vs H1 Q (WE W σ) := ⟨B1, rs, μ1, q1, I1.bh, fun p o z => ⟨(I1.mus p o z).1, (I1.mus p o z).2.1⟩, h1.1, fun v r B' H' μ' L qv hp => kk v r B' H' μ' (I1.back L) (e1.trans L.b0) qv (h1.2.1 r μ' hp),
    fun he B' H' L => h1.2.2 he σ B' H' (S.mono (e1.trans L.b0)) (I1.back L)⟩
  have hl : (us ++ []).length = ps.length := by rw [List.append_nil, ← rv.length]; exact F.len _ _ _ _ hsp
  have bd := hb s1 us J1.kIn hl
  rw [List.append_nil] at bd
  refine wpAny_call (codeAny_mono (F.run X.A X.stack s1 H1 ⟨us, []⟩ us vs Q (WE W σ) hr hgd J1.env0 bd rv hsp) fun r s' hq => ?_)
  match r, hq with
  | .ok (.ret u), hq => exact J1.after hq
  | .ok .next, hq => exact hq.elim
  | .ok .brk, hq => exact hq.elim
  | .ok .cont, hq => exact hq.elim
  | .error u, hq => exact passAt tk σ pins H1 s1 u s' J1 hq
/-- raise C("words"), C under ValueError without a def of its own -/
theorem ds_raiseV {m : Str} {j : Nat} {p2 : Pos} (tk : Takes X W) (hc : X.calm = true) (q : PySem.W.excIn X.K C [.type "ValueError", .type "Exception", .type "BaseException", .type "object"] "ValueError.__new__" = true) (gC : X.mg x = some (.ref C)) (kC : PySem.W.keepIn X.K (.ref C) = true)
    (r : Raises X (.ref C)) (h : ∀ σ B H, Sto B σ ρ → SInv w B H μ → W (.ref C) none σ H) (hg : Gl X x := by rfl) (hdb : (x == ("__debug__" : Str)) = false := by decide) {pos2 : Pos} :
    DS X w (.Raise (some (.Call (.Name x p) [.Constant (.str m) j p2] [] pos)) none pos2) ρ μ P := fun σ B H S I D E =>
  tS_of (ps_raise hc tk (pmk_own PySem.F.excBase_ValueError q gC kC r hg hdb)) (h σ B H S I)
/-- try: body; except C as n: suite -/
theorem ds_try {n : Str} {np pos' : Pos} {body suite : List Stmt} {b₀ : Stmt} {cv : Value} (i : Nat) (exc : Mus → Prop) (hN : X.N.Nodup) (hc : Names X x cv) (eP : PySem.W.exmOne X.K (.ref C) cv = some true)
    (hb : ∀ w2 W pn xe, Takes (X.tr pn xe) W → (∀ σ' B' H' μ', Sto B' σ' ρ → SInv w2 B' H' μ' → exc μ' → W (.ref C) none σ' H') → DSs (X.tr pn xe) w2 body ρ μ P)
    (hsu : ∀ a oe pn μ', Zc (.ref C) none oe → (∃ vs, oe.data = .fields vs) → exc μ' → DSs (X.suite a ((a, oe) :: pn)) w (b₀ :: suite) (ρ.set i (.at a)) μ' { nx := fun ρ' μ' => P.nx (ρ'.set i .no) μ', rt := P.rt, bk := fun ρ' μ' => P.bk (ρ'.set i .no) μ', ct := fun ρ' μ' => P.ct (ρ'.set i .no) μ' })
    (hi : X.N[i]? = some n := by rfl) (hln : X.env.kindOf n = some .local := by rfl) (hs : X.stack = X.env :: X.outer := by rfl) (hf : X.env.frame = some X.env.locals := by rfl) :
    DS X w (.Try body [.ExceptHandler (some (.Name x np)) (some n) (b₀ :: suite) pos'] [] [] pos) ρ μ P := fun σ B H S I D E => by
  refine tS_of (ps_try_as (i := i) (Wout := fun _ _ _ _ => False) (tb := fun W D σ H => ∀ pn xe, Takes (X.tr pn xe) W → PassesOwn (model X.prog X.w) X.A X.env xe → tB_ (X.tr pn xe) body D σ H)
    (ts := fun a cls d D σ H => ∀ oe pn, Zc cls d oe → (∃ vs, oe.data = .fields vs) → tB_ (X.suite a ((a, oe) :: pn)) (b₀ :: suite) D σ H) hs hf hN hi hln hc takes0
    (fun W pn xe tk po => ⟨fun pins s σ H D J q => q pn xe tk po pins s J⟩) (fun a oe cls d pn hz hf => ⟨fun pins s σ H D J q => q oe pn hz hf pins s J⟩)) ?_
  intro pn xe tk po
  have L0 : SInv ⟨B, H, fun p => μ p ≠ none⟩ B H μ := SInv.start I.bh fun p o z => ⟨(I.mus p o z).1, (I.mus p o z).2.1⟩
  refine hb _ _ pn xe tk (fun σ' B' H' μ' S' I' hx => ⟨true, eP, fun _ a ha oe pn hz hf => ?_, nofun⟩) σ B H S L0 D ⟨?_, ?_, ?_, ?_⟩
  · have eB : Ex B B' := I'.b0
    refine hsu a oe pn μ' hz hf hx _ B' H' (S'.set i (show Svq B' (.ref a) (.at a) from rfl)) (I.back I') _ ⟨?_, ?_, ?_, ?_⟩
    · exact fun σ2 B2 H2 ρ2 μ2 S2 I2 e2 h2 => E.nx _ B2 H2 _ μ2 (S2.drop i) I2 (eB.trans e2) h2
    · exact fun v r B2 H2 μ2 I2 e2 q2 h2 => E.rt v r B2 H2 μ2 I2 (eB.trans e2) q2 h2
    · exact fun σ2 B2 H2 ρ2 μ2 S2 I2 e2 h2 => E.bk _ B2 H2 _ μ2 (S2.drop i) I2 (eB.trans e2) h2
    · exact fun σ2 B2 H2 ρ2 μ2 S2 I2 e2 h2 => E.ct _ B2 H2 _ μ2 (S2.drop i) I2 (eB.trans e2) h2
  · exact fun σ2 B2 H2 ρ2 μ2 S2 I2 e2 h2 => E.nx _ B2 H2 _ μ2 S2 (I.back I2) e2 h2
  · exact fun v r B2 H2 μ2 I2 e2 q2 h2 => E.rt v r B2 H2 μ2 (I.back I2) e2 q2 h2
  · exact fun σ2 B2 H2 ρ2 μ2 S2 I2 e2 h2 => E.bk _ B2 H2 _ μ2 S2 (I.back I2) e2 h2
  · exact fun σ2 B2 H2 ρ2 μ2 S2 I2 e2 h2 => E.ct _ B2 H2 _ μ2 S2 (I.back I2) e2 h2
/-- isinstance(e, T), e the error that the suite holds -/
theorem ca_isE {a D : Addr} {oe : Obj} {pn : List (Addr × Obj)} {r : SV} {cv : Value} {b : Bool} (CC : ExcC X.K D) (hz : Zc (.ref D) none oe) (hf : ∃ vs, oe.data = .fields vs) (hr : r = .at a) {t : SV} (ht : (∃ T, t = .ty T ∧ cv = .type T) ∨ (∃ c, t = .at c ∧ cv = .ref c))
    (hk : PySem.W.kitOne X.K (.ref D) cv = some b) (h : R (.dat (.bl b)) μ) : CaD (X.suite a ((a, oe) :: pn)) w (.builtin "isinstance") [r, t] μ R := fun B H vs I q Q kk => by
  subst hr
  obtain ⟨v, u, rfl, q1, q2⟩ := q.two
  cases (show v = V.ref a from q1)
  refine sC_of (call_isE CC hz hf) ⟨u, cv, b, rfl, ?_, hk, kk (.bl b) (.dat (.bl b)) B H μ I (Ex.refl B) (Dq.bl _) h⟩
  rcases ht with ⟨T, rfl, rfl⟩ | ⟨c, rfl, rfl⟩
  · cases (show u = V.ty T from q2)
    exact fun u' h => h
  · cases (show u = V.ref c from q2)
    exact fun u' h => h
/-- a class of the module, by its name -/
theorem de_globC {c : Addr} (hm : X.mg x = some (.ref c)) (h : R (.at c) μ) (hg : Gl X x := by rfl) (hd : (x == ("__debug__" : Str)) = false := by decide) : DE X w (.Name x pos) ρ μ R := fun σ B H _ I Q k => by
  exact tE_of (pe_glob (v := .ref c) hg hm rfl hd) (k (.ref c) (.at c) B H μ I (Ex.refl B) rfl h)
end
end Dat

set_option Elab.async false
set_option linter.all false
set_option maxRecDepth 100000
set_option maxHeartbeats 4000000
/-! Dat12: texts split, looked through, put together; a call by a keyword alone. -/
namespace Dat
open PySem PySem.Spec PyProof.Rows L2
section
variable {X : Cx} {w : Wd} {ρ : List SV} {μ : Mus} {R : SV → Mus → Prop} {o e : Expr} {es : List Expr} {apos pos : Pos} {x : Str}
theorem dqa_strs (H : Hp) : ∀ zs : List Str, DqA H (zs.map V.str) (zs.map Dt.str)
  | [] => .nil
  | z :: zs => .cons (Dq.str z) (dqa_strs H zs)
theorem de_split (ho : DE X w o ρ μ fun r μ1 => ∃ a, r = .dat (.str a) ∧ DE X w e ρ μ1 fun r2 μ2 => ∃ b : Str, r2 = .dat (.str b) ∧ (b.length == 0) = false ∧ a.length + 2 ≤ sizeLine ∧ R (.dat (.lst ((Txt.split a b).map Dt.str))) μ2)
    (hs : starEach [e] X.env = [(false, eval e X.env)] := by rfl) (hbase : attributeBase o "split" X.env (eval o X.env) = eval o X.env := by rfl) (hline : (apos.endLine == pos.line) = true := by rfl) : DE X w (.Call (.Attribute o "split" apos) [e] [] pos) ρ μ R := fun σ B H S I Q k =>
  tE_of (pe_split pe_self pe_self hs hbase hline) (ho σ B H S I _ fun v r B1 H1 μ1 I1 e1 q1 h1 => by
    obtain ⟨a, rfl, h1⟩ := h1
    cases q1
    refine ⟨⟨a, rfl⟩, h1 σ B1 H1 (S.mono e1) I1 _ fun v2 r2 B2 H2 μ2 I2 e2 q2 h2 => ?_⟩
    obtain ⟨b, rfl, hb, hz, h2⟩ := h2
    cases q2
    refine ⟨a, b, rfl, rfl, hb, hz, fun p hp => ?_⟩
    have f := (I2.free hp).1
    refine k _ (.dat (.lst ((Txt.split a b).map Dt.str))) _ _ μ2 (I2.new hp _) ((e1.trans e2).trans (Ex.new f)) (Dq.lst upd_same (dqa_strs _ _)) h2)
theorem de_m0 {name : Str} {id : String} {g : Str → V} {d : Str → Dt} (slot : Slot "str" name id) (ty : typeOf (.builtin id) = pure (.type "method_descriptor")) (rule : MtR X id (fun x xs H Q => ∃ a, x = .str a ∧ xs = [] ∧ True ∧ Q (g a) H)) (hgd : ∀ B a, Dq B (g a) (d a))
    (ho : DE X w o ρ μ fun r μ1 => ∃ a, r = .dat (.str a) ∧ R (.dat (d a)) μ1)
    (hbase : attributeBase o name X.env (eval o X.env) = eval o X.env := by rfl) (hline : (apos.endLine == pos.line) = true := by rfl) : DE X w (.Call (.Attribute o name apos) [] [] pos) ρ μ R := fun σ B H S I Q k =>
  tE_of (pe_m0 slot ty rule pe_self hbase hline) (ho σ B H S I _ fun v r B1 H1 μ1 I1 e1 q1 h1 => by
    obtain ⟨a, rfl, h1⟩ := h1
    cases q1
    exact ⟨⟨a, rfl⟩, a, rfl, rfl, trivial, k _ (.dat (d a)) B1 H1 μ1 I1 e1 (hgd B1 a) h1⟩)
theorem ca_intS {a : Str} {n : Int} (ha : PySem.intText? a = some n) (hl : a.length ≤ 640) (h : R (.dat (.int n)) μ) : CaD X w (.type "int") [.dat (.str a)] μ R := fun B H vs I q Q k => by
  obtain ⟨v, rfl, q1⟩ := q.one
  cases q1
  exact sC_of call_int_str ⟨a, n, rfl, ha, hl, k (.int _) (.dat (.int _)) B H μ I (Ex.refl B) (Dq.int _) h⟩
theorem ca_intB {b : Bool} (h : R (.dat (.int (if b then 1 else 0))) μ) : CaD X w (.type "int") [.dat (.bl b)] μ R := fun B H vs I q Q k => by
  obtain ⟨v, rfl, q1⟩ := q.one
  cases q1
  exact sC_of call_int1 (.inr ⟨b, rfl, k (.int _) (.dat (.int _)) B H μ I (Ex.refl B) (Dq.int _) h⟩)
theorem ca_strI {i : Int} (hi : i.natAbs.log2 < 1920) (h : R (.dat (.str (toString i))) μ) : CaD X w (.type "str") [.dat (.int i)] μ R := fun B H vs I q Q k => by
  obtain ⟨v, rfl, q1⟩ := q.one
  cases q1
  exact sC_of call_str_int ⟨i, rfl, hi, k (.str _) (.dat (.str _)) B H μ I (Ex.refl B) (Dq.str _) h⟩
theorem ca_strS {a : Str} (h : R (.dat (.str a)) μ) : CaD X w (.type "str") [.dat (.str a)] μ R := fun B H vs I q Q k => by
  obtain ⟨v, rfl, q1⟩ := q.one
  cases q1
  exact sC_of SkE.call_str_str ⟨a, rfl, k (.str _) (.dat (.str _)) B H μ I (Ex.refl B) (Dq.str _) h⟩
/-- an f-string's parts -/
def DJ (X : Cx) (w : Wd) (es : List Expr) (acc : Str) (ρ : List SV) (μ : Mus) (R : Str → Mus → Prop) : Prop :=
  ∀ σ B H, Sto B σ ρ → SInv w B H μ → ∀ Q : Str → Hp → Prop, (∀ out B' H' μ', SInv w B' H' μ' → Ex B B' → R out μ' → Q out H') → tJs (es.map (tE X)) acc σ H Q
theorem pj_self : ∀ es : List Expr, PJ X es (es.map (tE X))
  | [] => .nil
  | e :: es => .cons pe_self (pj_self es)
theorem dj_nil {acc : Str} {R : Str → Mus → Prop} (h : R acc μ) : DJ X w [] acc ρ μ R := fun σ B H S I Q k => k acc B H μ I (Ex.refl B) h
theorem dj_cons {acc : Str} {R : Str → Mus → Prop} (h : DE X w e ρ μ fun r μ1 => ∃ y, r = .dat (.str y) ∧ (acc ++ y).length ≤ sizeLine ∧ DJ X w es (acc ++ y) ρ μ1 R) : DJ X w (e :: es) acc ρ μ R := fun σ B H S I Q k =>
  h σ B H S I _ fun v r B1 H1 μ1 I1 e1 q1 h1 => by
    obtain ⟨y, rfl, hz, h1⟩ := h1
    cases q1
    exact ⟨y, rfl, hz, h1 σ B1 H1 (S.mono e1) I1 Q fun out B2 H2 μ2 I2 e2 h2 => k out B2 H2 μ2 I2 (e1.trans e2) h2⟩
theorem de_joined {e1 e2 : Expr} (h : DJ X w (e1 :: e2 :: es) Str.empty ρ μ fun out μ1 => R (.dat (.str out)) μ1) : DE X w (.JoinedStr (e1 :: e2 :: es) pos) ρ μ R := fun σ B H S I Q k =>
  tE_of (pe_joined (pj_self _)) (h σ B H S I _ fun out B1 H1 μ1 I1 ex h1 => k (.str out) (.dat (.str out)) B1 H1 μ1 I1 ex (Dq.str _) h1)
theorem de_fmt (h : DE X w e ρ μ fun r μ1 => (∃ y : Str, r = .dat (.str y) ∧ y.length ≤ sizeLine ∧ R (.dat (.str y)) μ1) ∨ ∃ i : Int, r = .dat (.int i) ∧ i.natAbs.log2 < 1920 ∧ R (.dat (.str (toString i))) μ1) : DE X w (.FormattedValue e (-1) none pos) ρ μ R := fun σ B H S I Q k =>
  tE_of (pe_fmt pe_self) (h σ B H S I _ fun v r B1 H1 μ1 I1 e1 q1 h1 => by
    rcases h1 with ⟨y, rfl, hz, h1⟩ | ⟨i, rfl, hz, h1⟩
    · cases q1
      exact .inl ⟨y, rfl, hz, k (.str y) (.dat (.str y)) B1 H1 μ1 I1 e1 (Dq.str _) h1⟩
    · cases q1
      exact .inr ⟨i, rfl, hz, k (.str _) (.dat (.str _)) B1 H1 μ1 I1 e1 (Dq.str _) h1⟩)
/-- f(k = e), f without a way out by an error -/
theorem de_kw1 {p kpos : Pos} {k : Nat} {f : Addr} {fd : FuncData} {nm : Str} {pre : List SV → Mus → Prop} {post : List SV → Mus → SV → Mus → Prop} (F : FnG X.prog X.w X.K X.mg X.base k f fd [nm] (GSp pre post)) (hr : Room k X.A) (hgd : X.A.guards = some []) (hm : X.mg x = some (.ref f)) (hk : PySem.W.keepIn X.K (.ref f) = true)
    (hb : ∀ (s : Shared) (u : Value), BindsTo s fd ⟨[], [(nm, u)]⟩ [(nm, u)]) (ha : DE X w e ρ μ fun r μ1 => pre [r] μ1 ∧ ∀ r' μ2, post [r] μ1 r' μ2 → R r' μ2) (hg : Gl X x := by rfl) (hdb : (x == ("__debug__" : Str)) = false := by decide)
    (hall : (backToKw pos (keywordEach [⟨some nm, e, kpos⟩] X.env)).all (·.1.isSome) = true := by rfl) (hks : (backToKw pos (keywordEach [⟨some nm, e, kpos⟩] X.env)).filterMap (·.1) = [nm] := by rfl)
    (hpl : ((backTo pos (starEach [] X.env)).any (·.1) || (backToKw pos (keywordEach [⟨some nm, e, kpos⟩] X.env)).any (·.1.isNone)) = false := by rfl) : DE X w (.Call (.Name x p) [] [⟨some nm, e, kpos⟩] pos) ρ μ R := fun σ B H S I Q kk pins s J => by
  refine wpAny_Call_Name_kw (ld_glob J hg hm ?_ hdb)
  refine PySem.W.callWith_KW0 (h₀ := X.base) J.ok.mod.kin hk hall ?_ hpl
  refine thn ((pk_cons (nm := some nm) (kpos := kpos) pe_self pk_nil).run pos pins s σ H (fun vs H1 => ∀ us s1, Inv X pins σ H1 s1 → Vals vs us → wpAny (model X.prog X.w) X.A (call (.ref f) ([] ++ []) ([nm].zip us)) (EP X pins σ Q) X.xe s1) J ?_) fun us s1 ⟨vs, H1, J1, rv, q⟩ => ⟨J1.kIn, ?_⟩
  · refine ha σ B H S I _ fun v r B1 H1 μ1 I1 e1 q1 h1 => ?_
    intro us s1 J1 rv
    cases rv with
    | @cons _ u _ _ r1 r2 =>
      cases r2
      have hsp : GSp pre post [v] H1 Q E0 := ⟨B1, [r], μ1, .cons q1 .nil, I1.bh, fun p o z => ⟨(I1.mus p o z).1, (I1.mus p o z).2.1⟩, h1.1, fun v r B' H' μ' L qv hp => kk v r B' H' μ' (I1.back L) (e1.trans L.b0) qv (h1.2 r μ' hp)⟩
      refine wpAny_call (codeAny_mono (F.run X.A X.stack s1 H1 ⟨[], [(nm, u)]⟩ [u] [v] Q E0 hr hgd J1.env0 (hb s1 u) (.cons r1 .nil) hsp) fun r s' hq => ?_)
      match r, hq with
      | .ok (.ret u), hq => exact J1.after hq
      | .ok .next, hq => exact hq.elim
      | .ok .brk, hq => exact hq.elim
      | .ok .cont, hq => exact hq.elim
      | .error _, hq => exact hq.elim
  · rw [hks]
    exact q us s1 J1 rv
/-- f(k = e), f one that may raise; here it does not, or the error is taken -/
theorem de_kwX {p kpos : Pos} {k : Nat} {f C : Addr} {fd : FuncData} {nm : Str} {W : WX} {pre : List SV → Mus → Prop} {post : List SV → Mus → SV → Mus → Prop} {exc : List SV → Mus → Prop} (F : FnX X.prog X.w X.K X.mg X.base k f fd [nm] (XSp C pre post exc)) (tk : Takes X W) (hr : Room k X.A) (hgd : X.A.guards = some []) (hm : X.mg x = some (.ref f)) (hk : PySem.W.keepIn X.K (.ref f) = true)
    (hb : ∀ (s : Shared) (u : Value), BindsTo s fd ⟨[], [(nm, u)]⟩ [(nm, u)]) (ha : DE X w e ρ μ fun r μ1 => pre [r] μ1 ∧ (∀ r' μ2, post [r] μ1 r' μ2 → R r' μ2) ∧ (exc [r] μ1 → ∀ σ B H, Sto B σ ρ → SInv w B H μ1 → W (.ref C) none σ H)) (hg : Gl X x := by rfl) (hdb : (x == ("__debug__" : Str)) = false := by decide)
    (hall : (backToKw pos (keywordEach [⟨some nm, e, kpos⟩] X.env)).all (·.1.isSome) = true := by rfl) (hks : (backToKw pos (keywordEach [⟨some nm, e, kpos⟩] X.env)).filterMap (·.1) = [nm] := by rfl)
    (hpl : ((backTo pos (starEach [] X.env)).any (·.1) || (backToKw pos (keywordEach [⟨some nm, e, kpos⟩] X.env)).any (·.1.isNone)) = false := by rfl) : DE X w (.Call (.Name x p) [] [⟨some nm, e, kpos⟩] pos) ρ μ R := fun σ B H S I Q kk pins s J => by
  refine wpAny_Call_Name_kw (ld_glob J hg hm ?_ hdb)
  refine PySem.W.callWith_KW0 (h₀ := X.base) J.ok.mod.kin hk hall ?_ hpl
  refine thn ((pk_cons (nm := some nm) (kpos := kpos) pe_self pk_nil).run pos pins s σ H (fun vs H1 => ∀ us s1, Inv X pins σ H1 s1 → Vals vs us → wpAny (model X.prog X.w) X.A (call (.ref f) ([] ++ []) ([nm].zip us)) (EP X pins σ Q) X.xe s1) J ?_) fun us s1 ⟨vs, H1, J1, rv, q⟩ => ⟨J1.kIn, ?_⟩
  · refine ha σ B H S I _ fun v r B1 H1 μ1 I1 e1 q1 h1 => ?_
    intro us s1 J1 rv
    cases rv with
    | @cons _ u _ _ r1 r2 =>
      cases r2
      have hsp : XSp C pre post exc [v] H1 Q (WE W σ) := ⟨B1, [r], μ1, .cons q1 .nil, I1.bh, fun p o z => ⟨(I1.mus p o z).1, (I1.mus p o z).2.1⟩, h1.1, fun v r B' H' μ' L qv hp => kk v r B' H' μ' (I1.back L) (e1.trans L.b0) qv (h1.2.1 r μ' hp),
        fun he B' H' L => h1.2.2 he σ B' H' (S.mono (e1.trans L.b0)) (I1.back L)⟩
      refine wpAny_call (codeAny_mono (F.run X.A X.stack s1 H1 ⟨[], [(nm, u)]⟩ [u] [v] Q (WE W σ) hr hgd J1.env0 (hb s1 u) (.cons r1 .nil) hsp) fun r s' hq => ?_)
      match r, hq with
      | .ok (.ret u), hq => exact J1.after hq
      | .ok .next, hq => exact hq.elim
      | .ok .brk, hq => exact hq.elim
      | .ok .cont, hq => exact hq.elim
      | .error u, hq => exact passAt tk σ pins H1 s1 u s' J1 hq
  · rw [hks]
    exact q us s1 J1 rv
end
end Dat

set_option Elab.async false
set_option linter.all false
set_option maxRecDepth 100000
set_option maxHeartbeats 4000000
/-! Dat13: own objects: made, their fields set and read; a made one is data. -/
namespace Dat
open PySem PySem.Spec PyProof.Rows L2
theorem fs_at {B : Hp} : ∀ {fs : List (Str × V)} {ds : List Dt}, DqA B (fs.map (·.2)) ds → ∀ {f : Str} {d : Dt}, ((fs.map (·.1)).zip ds).lookup f = some d → ∃ v, fs.lookup f = some v ∧ Dq B v d
  | [], _, _, f, d, h => by simp at h
  | (g, x) :: fs, _, .cons q qs, f, d, h => by
    rw [List.map_cons, List.zip_cons_cons, List.lookup_cons] at h
    rw [List.lookup_cons]
    cases e : f == g with
    | true => rw [e] at h; cases h; exact ⟨x, rfl, q⟩
    | false => rw [e] at h; exact fs_at qs h
theorem fs_put (f : Str) (v : V) : ∀ fs : List (Str × V), f ∉ fs.map (·.1) → (putF f v fs).map (·.1) = fs.map (·.1) ++ [f] ∧ (putF f v fs).map (·.2) = fs.map (·.2) ++ [v]
  | [], _ => ⟨rfl, rfl⟩
  | (g, x) :: fs, h => by
    have hg : ¬ g = f := fun e => h (by rw [e]; exact List.mem_cons_self)
    obtain ⟨h1, h2⟩ := fs_put f v fs fun e => h (List.mem_cons_of_mem _ e)
    unfold putF
    rw [if_neg hg]
    exact ⟨by rw [List.map_cons, h1]; rfl, by rw [List.map_cons, h2]; rfl⟩
section
variable {X : Cx} {w : Wd} {ρ : List SV} {μ : Mus} {R : SV → Mus → Prop} {P : Po} {o e value : Expr} {es : List Expr} {x f : Str} {p pos pos' : Pos}
/-- o.f, o data -/
theorem de_fld (ho : DE X w o ρ μ fun r μ1 => ∃ C ns vs d, r = .dat (.obj C ns vs) ∧ Cls X.K C ∧ NoAttr X.K C f ∧ (ns.zip vs).lookup f = some d ∧ R (.dat d) μ1) (hb : attributeBase o f X.env (eval o X.env) = eval o X.env := by rfl) : DE X w (.Attribute o f pos) ρ μ R := fun σ B H S I Q k =>
  tE_of (pe_fld pe_self hb) (ho σ B H S I _ fun v r B1 H1 μ1 I1 e1 q1 h1 => by
    obtain ⟨C, ns, vs, d, rfl, c, n, l, h1⟩ := h1
    cases q1 with
    | @obj a C dx fs ds ha hx =>
      obtain ⟨v2, l2, q2⟩ := fs_at hx l
      exact ⟨a, C, dx, fs, v2, rfl, I1.bh _ _ ha, c, n, l2, k v2 (.dat d) B1 H1 μ1 I1 e1 q2 h1⟩)
/-- self.f within __init__ -/
theorem de_fldM (ho : DE X w o ρ μ fun r μ1 => ∃ q C ns vs d, r = .at q ∧ μ1 q = some (.ins C ns vs) ∧ Cls X.K C ∧ NoAttr X.K C f ∧ (ns.zip vs).lookup f = some d ∧ R (.dat d) μ1) (hb : attributeBase o f X.env (eval o X.env) = eval o X.env := by rfl) : DE X w (.Attribute o f pos) ρ μ R := fun σ B H S I Q k =>
  tE_of (pe_fld pe_self hb) (ho σ B H S I _ fun v r B1 H1 μ1 I1 e1 q1 h1 => by
    obtain ⟨q, C, ns, vs, d, rfl, hm, c, n, l, h1⟩ := h1
    cases (show v = V.ref q from q1)
    obtain ⟨_, ⟨dx, fs, ha, rfl, hx⟩, _⟩ := I1.mus q _ hm
    obtain ⟨v2, l2, q2⟩ := fs_at hx l
    exact ⟨q, C, dx, fs, v2, rfl, ha, c, n, l2, k v2 (.dat d) B1 H1 μ1 I1 e1 q2 h1⟩)
/-- self.f = value, f a new field -/
theorem ds_fld (hv : DE X w value ρ μ fun r μ1 => ∃ d, r = .dat d ∧ DE X w o ρ μ1 fun r2 μ2 => ∃ q C ns vs, r2 = .at q ∧ μ2 q = some (.ins C ns vs) ∧ Cls X.K C ∧ NoAttr X.K C f ∧ f ∉ ns ∧ ns.length < 1000 ∧ P.nx ρ (μ2.put q (.ins C (ns ++ [f]) (vs ++ [d]))))
    (hs : swapsWith value (some (.Attribute o f pos')) pos.line X.env = pure false := by rfl) : DS X w (.Assign [.Attribute o f pos'] value pos) ρ μ P := fun σ B H S I D E =>
  tS_of (ps_fld pe_self pe_self hs) (hv σ B H S I _ fun v r B1 H1 μ1 I1 e1 q1 h1 => by
    obtain ⟨d, rfl, h1⟩ := h1
    refine h1 σ B1 H1 (S.mono e1) I1 _ fun v2 r2 B2 H2 μ2 I2 e2 q2 h2 => ?_
    obtain ⟨q, C, ns, vs, rfl, hm, c, n, hf, hl, h2⟩ := h2
    cases (show v2 = V.ref q from q2)
    obtain ⟨_, ⟨dx, fs, ha, rfl, hx⟩, _⟩ := I2.mus q _ hm
    obtain ⟨p1, p2⟩ := fs_put f v fs hf
    refine ⟨q, C, dx, fs, rfl, ha, c, n, by rw [List.length_map] at hl; exact hl, E.nx σ B2 _ ρ _ (S.mono (e1.trans e2)) (I2.set hm (.ins C (fs.map (·.1) ++ [f]) (vs ++ [d])) ⟨dx, putF f v fs, upd_same, p1, ?_⟩) (e1.trans e2) h2⟩
    rw [p2]
    exact hx.snoc (Dq.mono e2 q1))
/-- C(e, ..): made, then data -/
theorem de_make {k : Nat} {g C : Addr} {fd : FuncData} {ps : List Str} {pre : List SV → Mus → Prop} {post : List SV → Mus → SV → Mus → Prop} (M : Mk X.K C g) (F : FnG X.prog X.w X.K X.mg X.base k g fd ps (GSp pre post)) (hr : Room (k + 1) X.A) (hgd : X.A.guards = some []) (hm : X.mg x = some (.ref C)) (hb : Binds X.K fd ps [])
    (ha : DA X w (e :: es) ρ μ fun rs μ1 => ∀ q, μ1 q = none → pre (.at q :: rs) (μ1.put q (.ins C [] [])) ∧ ∀ r μ2, post (.at q :: rs) (μ1.put q (.ins C [] [])) r μ2 → r = .dat .non ∧ ∃ ns vs ν, μ2 q = some (.ins C ns vs) ∧ ν.Sub μ2 ∧ ν q = none ∧ R (.dat (.obj C ns vs)) ν)
    (hg : Gl X x := by rfl) (hdb : (x == ("__debug__" : Str)) = false := by decide)
    (he : starEach (e :: es) X.env = (false, eval e X.env) :: starEach es X.env := by rfl) (hpl : (backTo pos (starEach es X.env)).any (·.1) = false := by rfl) : DE X w (.Call (.Name x p) (e :: es) [] pos) ρ μ R := fun σ B H S I Q kk pins s J => by
  refine wpAny_Call_Name_kw (ld_glob J hg hm ?_ hdb)
  refine PySem.W.callWith_K (h₀ := X.base) J.ok.mod.kin M.kp (thn ((pa_self (X := X) (es := e :: es)).run pos pins s σ H _ J (ha σ B H S I
    (fun vs H1 => ∀ us s1, Inv X pins σ H1 s1 → Vals vs us → wpAny (model X.prog X.w) X.A (call (.ref C) us) (EP X pins σ Q) X.xe s1) ?_)) fun us s1 ⟨vs, H1, J1, rv, q⟩ => ⟨J1.kIn, q us s1 J1 rv⟩) he hpl
  intro vs rs B1 H1 μ1 I1 e1 q1 h1 us s1 J1 rv
  have nx : H1 (s1.heap.objs.size + 1) = none := J1.hok.fresh (Nat.le_succ _)
  have nd : H1 s1.heap.objs.size = none := J1.hok.fresh (Nat.le_refl _)
  have ne : s1.heap.objs.size ≠ s1.heap.objs.size + 1 := Nat.ne_of_lt (Nat.lt_succ_self _)
  obtain ⟨bd, md, wd⟩ := I1.free nd
  have I2 : SInv w B1 (upd H1 s1.heap.objs.size (.own (s1.heap.objs.size + 1))) μ1 := I1.own bd wd md _
  have nx2 : (upd H1 s1.heap.objs.size (.own (s1.heap.objs.size + 1))) (s1.heap.objs.size + 1) = none := by rw [upd_ne ne.symm]; exact nx
  obtain ⟨bx, mx, wx⟩ := I2.free nx2
  have I3 : SInv w B1 (upd (upd H1 s1.heap.objs.size (.own (s1.heap.objs.size + 1))) (s1.heap.objs.size + 1) (.ins C s1.heap.objs.size [])) (μ1.put (s1.heap.objs.size + 1) (.ins C [] [])) := I2.newM nx2 _ ⟨_, [], upd_same, rfl, .nil⟩
  obtain ⟨hp, hq⟩ := h1 _ mx
  have hsp : GSp pre post (.ref (s1.heap.objs.size + 1) :: vs) (upd (upd H1 s1.heap.objs.size (.own (s1.heap.objs.size + 1))) (s1.heap.objs.size + 1) (.ins C s1.heap.objs.size [])) (fun v H2 => v = .non ∧ Q (.ref (s1.heap.objs.size + 1)) H2) E0 :=
    ⟨B1, .at (s1.heap.objs.size + 1) :: rs, _, .cons (r := .at (s1.heap.objs.size + 1)) rfl q1, I3.bh, fun p o z => ⟨(I3.mus p o z).1, (I3.mus p o z).2.1⟩, hp, fun v r B' H' μ' L qv hpo => by
      obtain ⟨rfl, ns, ds, ν, h2, h3, h4, h5⟩ := hq r μ' hpo
      have I4 := I3.back L
      obtain ⟨B2, I5, e5, q5⟩ := I4.freezeI h2 wx h3 h4
      cases qv
      exact ⟨rfl, kk _ (.dat (.obj C ns ds)) B2 H' ν I5 ((e1.trans L.b0).trans e5) q5 h5⟩⟩
  have r2 : Vals (V.ref (s1.heap.objs.size + 1) :: vs) (Value.ref (s1.heap.objs.size + 1) :: us) := .cons rfl rv
  have hl : (Value.ref (s1.heap.objs.size + 1) :: us ++ []).length = ps.length := by rw [List.append_nil, ← r2.length]; exact F.len _ _ _ _ hsp
  have J2 := Inv.made (C := C) J1
  have bnd := hb _ (Value.ref (s1.heap.objs.size + 1) :: us) J2.kIn hl
  rw [List.append_nil] at bnd
  refine wpAny_call (make_map (f := g) J1.kIn M.makes M.init (beq_iff_eq.mp M.fn) (codeAny_mono (F.run _ X.stack _ _ ⟨Value.ref (s1.heap.objs.size + 1) :: us, []⟩ _ _ _ E0 (hr.make C us []) hgd (J2.env0.make C us []) bnd r2 hsp) fun r s' hq' => ?_))
  cases r with
  | error e => exact hq'.elim
  | ok fl =>
    cases fl with
    | ret u =>
      obtain ⟨v, H', I3', rv', ev, q3⟩ := J2.after hq'
      subst ev
      exact ⟨rv', ⟨V.ref (s1.heap.objs.size + 1), H', I3', rfl, q3⟩⟩
    | next => exact False.elim hq'
    | brk => exact False.elim hq'
    | cont => exact False.elim hq'
theorem fs_none {fs : List (Str × V)} {m : Str} (h : m ∉ fs.map (·.1)) : fs.lookup m = none := by
  induction fs with
  | nil => rfl
  | cons g fs ih =>
    obtain ⟨g, x⟩ := g
    rw [List.lookup_cons]
    have e : (m == g) = false := beq_eq_false_iff_ne.mpr fun e => h (by rw [e]; exact List.mem_cons_self)
    rw [e]
    exact ih fun z => h (List.mem_cons_of_mem _ z)
/-- o.m(e, ..), o data of the class C -/
theorem de_meth {pl : Sem Bool} {m : Str} {apos : Pos} {k : Nat} {g C : Addr} {fd : FuncData} {ps : List Str} {pre : List SV → Mus → Prop} {post : List SV → Mus → SV → Mus → Prop} (c : Cls X.K C) (hm : Meth X.K C m g) (F : FnG X.prog X.w X.K X.mg X.base k g fd ps (GSp pre post)) (hr : Room k X.A) (hgd : X.A.guards = some []) (hb : Binds X.K fd ps [])
    (ho : DE X w o ρ μ fun r μ1 => ∃ ns vs, r = .dat (.obj C ns vs) ∧ m ∉ ns ∧ DA X w (e :: es) ρ μ1 fun rs μ2 => pre (r :: rs) μ2 ∧ ∀ r' μ3, post (r :: rs) μ2 r' μ3 → R r' μ3)
    (hst : starEach (e :: es) X.env = (false, eval e X.env) :: starEach es X.env := by rfl) (hpl : (backTo pos (starEach es X.env)).any (·.1) = false := by rfl)
    (ht : eval (.Call (.Attribute o m apos) (e :: es) [] pos) X.env = (do let r0 ← eval o X.env; standAt apos.atName; let (g0, l0) ← holding [r0] (getMethod r0 m pl); callWith pos g0 l0 (backTo pos (starEach (e :: es) X.env)) (backToKw pos (keywordEach [] X.env))) := by rfl) : DE X w (.Call (.Attribute o m apos) (e :: es) [] pos) ρ μ R := fun σ B H S I Q kk pins s J => by
  refine PySem.W.methodCall_KW (pl := pl) (thn ((pe_self (X := X) (e := o)).run pins s σ H (fun v H1 => ∃ a dx fs, v = .ref a ∧ H1 a = some (.ins C dx fs) ∧ fs.lookup m = none ∧ tL X (e :: es) σ H1 (fun vs H2 => ∀ us s2, Inv X pins σ H2 s2 → Vals vs us → wpAny (model X.prog X.w) X.A (call (.ref g) (.ref a :: us)) (EP X pins σ Q) X.xe s2)) J ?_) fun u s1 ⟨v, H1, I1, rx, a, dx, fs, ex, ea, l, q⟩ => ?_) ht
  · refine ho σ B H S I _ fun v r B1 H1 μ1 I1 e1 q1 h1 => ?_
    obtain ⟨ns, vs, rfl, hn, h1⟩ := h1
    cases q1 with
    | @obj a C dx fs ds ha hx =>
      refine ⟨a, dx, fs, rfl, I1.bh _ _ ha, fs_none hn, h1 σ B1 H1 (S.mono e1) I1 _ fun vs2 rs B2 H2 μ2 I2 e2 q2 h2 => ?_⟩
      intro us s2 J2 rv
      have hsp : GSp pre post (.ref a :: vs2) H2 Q E0 := ⟨B2, _, μ2, .cons (r := .dat (.obj C _ _)) (Dq.mono e2 (.obj ha hx)) q2, I2.bh, fun p o z => ⟨(I2.mus p o z).1, (I2.mus p o z).2.1⟩, h2.1, fun v r B' H' μ' L qv hp => kk v r B' H' μ' (I2.back L) ((e1.trans e2).trans L.b0) qv (h2.2 r μ' hp)⟩
      have r2 : Vals (V.ref a :: vs2) (Value.ref a :: us) := .cons rfl rv
      have hl : (Value.ref a :: us ++ []).length = ps.length := by rw [List.append_nil, ← r2.length]; exact F.len _ _ _ _ hsp
      have bd := hb s2 (Value.ref a :: us) J2.kIn hl
      rw [List.append_nil] at bd
      refine wpAny_call (codeAny_mono (F.run X.A X.stack s2 H2 ⟨Value.ref a :: us, []⟩ _ _ Q E0 hr hgd J2.env0 bd r2 hsp) fun r s' hq => ?_)
      match r, hq with
      | .ok (.ret u), hq => exact J2.after hq
      | .ok .next, hq => exact hq.elim
      | .ok .brk, hq => exact hq.elim
      | .ok .cont, hq => exact hq.elim
      | .error _, hq => exact hq.elim
  · subst ex
    obtain rfl : u = Value.ref a := rx
    refine getmeth_ok I1 ea c hm l ?_
    exact PySem.W.callWith_K (first := [.ref a]) (h₀ := X.base) J.ok.mod.kin hm.kp (thn ((pa_self (X := X) (es := e :: es)).run pos pins s1 σ H1 _ I1 q) fun us s2 ⟨vs, H2, I2, r, q2⟩ => ⟨I2.kIn, q2 us s2 I2 r⟩) hst hpl
/-- o.m(), o data of the class C -/
theorem de_meth0 {pl : Sem Bool} {m : Str} {apos : Pos} {k : Nat} {g C : Addr} {fd : FuncData} {ps : List Str} {pre : List SV → Mus → Prop} {post : List SV → Mus → SV → Mus → Prop} (c : Cls X.K C) (hm : Meth X.K C m g) (F : FnG X.prog X.w X.K X.mg X.base k g fd ps (GSp pre post)) (hr : Room k X.A) (hgd : X.A.guards = some []) (hb : Binds X.K fd ps [])
    (ho : DE X w o ρ μ fun r μ1 => ∃ ns vs, r = .dat (.obj C ns vs) ∧ m ∉ ns ∧ pre [r] μ1 ∧ ∀ r' μ3, post [r] μ1 r' μ3 → R r' μ3)
    (ht : eval (.Call (.Attribute o m apos) [] [] pos) X.env = (do let r0 ← eval o X.env; standAt apos.atName; let (g0, l0) ← holding [r0] (getMethod r0 m pl); callWith pos g0 l0 (backTo pos (starEach [] X.env)) (backToKw pos (keywordEach [] X.env))) := by rfl) : DE X w (.Call (.Attribute o m apos) [] [] pos) ρ μ R := fun σ B H S I Q kk pins s J => by
  refine PySem.W.methodCall_KW (pl := pl) (thn ((pe_self (X := X) (e := o)).run pins s σ H (fun v H1 => ∃ a dx fs, v = .ref a ∧ H1 a = some (.ins C dx fs) ∧ fs.lookup m = none ∧ (∀ s2, Inv X pins σ H1 s2 → wpAny (model X.prog X.w) X.A (call (.ref g) [.ref a]) (EP X pins σ Q) X.xe s2)) J ?_) fun u s1 ⟨v, H1, I1, rx, a, dx, fs, ex, ea, l, q⟩ => ?_) ht
  · refine ho σ B H S I _ fun v r B1 H1 μ1 I1 e1 q1 h1 => ?_
    obtain ⟨ns, vs, rfl, hn, h1⟩ := h1
    cases q1 with
    | @obj a C dx fs ds ha hx =>
      refine ⟨a, dx, fs, rfl, I1.bh _ _ ha, fs_none hn, ?_⟩
      intro s2 J2
      have hsp : GSp pre post [.ref a] H1 Q E0 := ⟨B1, _, μ1, .cons (r := .dat (.obj C _ _)) (.obj ha hx) .nil, I1.bh, fun p o z => ⟨(I1.mus p o z).1, (I1.mus p o z).2.1⟩, h1.1, fun v r B' H' μ' L qv hp => kk v r B' H' μ' (I1.back L) (e1.trans L.b0) qv (h1.2 r μ' hp)⟩
      have r2 : Vals [V.ref a] [Value.ref a] := .cons rfl .nil
      have hl : ([Value.ref a] ++ []).length = ps.length := by rw [List.append_nil, ← r2.length]; exact F.len _ _ _ _ hsp
      have bd := hb s2 [Value.ref a] J2.kIn hl
      rw [List.append_nil] at bd
      refine wpAny_call (codeAny_mono (F.run X.A X.stack s2 H1 ⟨[Value.ref a], []⟩ _ _ Q E0 hr hgd J2.env0 bd r2 hsp) fun r s' hq => ?_)
      match r, hq with
      | .ok (.ret u), hq => exact J2.after hq
      | .ok .next, hq => exact hq.elim
      | .ok .brk, hq => exact hq.elim
      | .ok .cont, hq => exact hq.elim
      | .error _, hq => exact hq.elim
  · subst ex
    obtain rfl : u = Value.ref a := rx
    refine getmeth_ok I1 ea c hm l ?_
    exact PySem.W.callWith_K0 (first := [.ref a]) I1.kIn hm.kp (q s1 I1)
end
end Dat

set_option Elab.async false
set_option linter.all false
set_option maxRecDepth 100000
set_option maxHeartbeats 4000000
/-! Er1: errors of one's own, made by places or by keywords, at the library's level. -/
namespace Er
open PySem PySem.W PySem.Calls PyProof.Rows
section
variable {M : Model} {A : Around} {E : Value → Shared → Prop} {h : Heap} {g : Array GenState} {d : Drawn} {t : Nat} {os : OsState}
variable {nm q : Str} {C N : Addr} {bs bm bN : List Value} {hdct : Bool} {sn : List Str} {sub : List Value} {ab : Bool} {col : Option Bool} {dd : Option Addr} {k0 k1 k2 k3 k5 : Option Value} {B newId initId : String}
theorem chk_new (F : ExcBaseFacts B newId initId bN) (hB : bm.contains (.type B) = true) {us : List Value} {kw : List (Str × Value)} {Q : Unit → Shared → Prop}
    (oC : h.get? C = some (excClassObj nm q C N bs bm hdct sn sub ab col dd k0 k1 k2 k3 k5 newId)) (hq : Q () ⟨h, g, d, t, os⟩) : wpAny M A (checkBuiltinCall newId ⟨.ref C :: us, kw⟩) Q E ⟨h, g, d, t, os⟩ := by
  have cB : (Value.ref C :: bm).contains (.type B) = true := by rw [List.contains_cons, hB, Bool.or_true]
  have st := F.noStar
  simp only [checkBuiltinCall, F.newKind, F.newSplit, F.newRow]
  repeat (first | refine wpAny_loadPart_at oC ?_ | (refine wpAny_isSubtype_exc oC ?_; rw [cB]) | refine wpAny_staticBase_exc oC ?_ | refine wpAny_madeBy_exc oC ?_ | simp only [bne_self_eq_false, Bool.false_eq_true, if_false] | wp_step)
  exact hq
end
section
variable {prog : Program} {w : World} {A : Around} {E : Value → Shared → Prop} {R : Result → Shared → Prop} {h : Heap} {g : Array GenState} {d : Drawn} {t : Nat} {os : OsState}
variable {nm q : Str} {C N : Addr} {bs bm bN : List Value} {hdct : Bool} {sn : List Str} {sub : List Value} {ab : Bool} {col : Option Bool} {dd : Option Addr} {k0 k1 k2 k3 k5 : Option Value} {B newId initId : String}
/-- what the class's mro says -/
structure Tl (B : String) (bm : List Value) : Prop where
  own : bm.contains (.type B) = true
  att : bm.contains (.type "AttributeError") = false
  nam : bm.contains (.type "NameError") = false
theorem new_any (F : ExcBaseFacts B newId initId bN) (T : Tl B bm) {us : List Value} {kw : List (Str × Value)}
    (oC : h.get? C = some (excClassObj nm q C N bs bm hdct sn sub ab col dd k0 k1 k2 k3 k5 newId))
    (hq : R (.ok (.ret (.ref (h.objs.size + 1)))) ⟨(h.push { cls := .type "tuple", data := .seq us.toArray }).push (PX.excO C h.objs.size), g, d, t, os⟩) (hz : us.length ≤ sizeLine) :
    codeAny (model prog w) A (.builtin newId ⟨.ref C :: us, kw⟩) R ⟨h, g, d, t, os⟩ := by
  have en := F.ends
  have cB : (Value.ref C :: bm).contains (.type B) = true := by rw [List.contains_cons, T.own, Bool.or_true]
  have cA : (Value.ref C :: bm).contains (.type "AttributeError") = false := by rw [List.contains_cons, T.att]; rfl
  have cN : (Value.ref C :: bm).contains (.type "NameError") = false := by rw [List.contains_cons, T.nam]; rfl
  refine codeAny_builtinAt F.entry ?_
  unfold Builtin.«BaseException.__new__»
  refine _root_.PySem.wpAt_bind ?_
  show _root_.PySem.wpAt _ _ _ (stack >>= _) _ _ _
  refine _root_.PySem.wpAt_bind (_root_.PySem.wpAt_stack fun p below => _root_.PySem.wpAt_of_wpAny ?_)
  wp_walk
  refine _root_.PySem.wpAt_of_wpAny ?_
  rw [F.owner]
  repeat (first | with_reducible refine wpAny_madeHere_exc F.canon oC ?_ | with_reducible refine wpAny_loadPart_at oC ?_ | (with_reducible refine wpAny_isSubtype_exc oC ?_; first | rw [cB] | rw [cA] | rw [cN]) | wp_step)
  show R _ _
  rw [Heap.size_push]
  exact hq

/-- type.__call__: the new object, then its __init__, then Q -/
theorem tcall_any (F : ExcBaseFacts B newId initId bN) (T : Tl B bm) {us : List Value} {kw : List (Str × Value)} {fI : Addr} {Q : Fin → Shared → Prop}
    (oC : h.get? C = some (excClassObj nm q C N bs bm hdct sn sub ab col dd k0 k1 k2 k3 k5 newId))
    (hi : Looks (model prog w) h (typeLookup (.ref C) "__init__") (some (.ref fI))) (hb : ∀ self, Looks (model prog w) h (bindSpecial (.ref fI) self) (.ref fI, [self])) (hz : us.length ≤ sizeLine)
    (hq : codeAny (model prog w) A (.call (.ref fI) ⟨.ref (h.objs.size + 1) :: us, kw⟩)
      (fun r s' => match r with | .ok (.ret v) => v = .none ∧ Q (.done (.ret (.ref (h.objs.size + 1)))) s' | .ok _ => False | .error e => E e s')
      ⟨(h.push (kdv_tup us)).push (PX.excO C h.objs.size), g, d, t, os⟩) :
    wpAny (model prog w) A (Builtin.«type.__call__» ⟨.ref C :: us, kw⟩) Q E ⟨h, g, d, t, os⟩ := by
  repeat (first | with_reducible refine wpAny_loadPart_at oC ?_ | with_reducible refine wpAny_madeBy_exc oC ?_ | wp_step)
  refine codeAny_call_builtin_code (Code.quiet_builtin _ F.quiet) (chk_new F T.own oC ?_)
  refine new_any F T oC ?_ hz
  show wpAny _ _ _ _ _ _
  have kp : ∀ b o, h.get? b = some o → ((h.push (kdv_tup us)).push (PX.excO C h.objs.size)).get? b = some o := fun b o e => Heap.get?_push_of_some _ (Heap.get?_push_of_some _ e)
  have oC₁ := kp _ _ oC
  have oE : ((h.push (kdv_tup us)).push (PX.excO C h.objs.size)).get? (h.objs.size + 1) = some (PX.excO C h.objs.size) := by heap_get
  have cC : (Value.ref C :: bm).contains (.ref C) = true := by simp
  have i1 := hi.keeps kp
  have b1 := (hb (.ref (h.objs.size + 1))).keeps kp
  unfold isInstance
  repeat (first | with_reducible refine wpAny_loadPart_at oE ?_ | (with_reducible refine wpAny_isSubtype_exc oC₁ ?_; rw [cC]) | wp_step)
  show wpAny _ _ (typeLookup (.ref C) _) _ _ _
  refine i1.at ?_
  refine wpAny_holding (wpAny_bind (b1.at ?_))
  refine wpAny_bind (wpAny_call (codeAny_mono hq fun r s' z => ?_))
  rcases r with e | (v | _ | _ | _) <;> first | exact z | exact z.elim | skip
  obtain ⟨ev, z⟩ := z
  subst ev
  first
    | exact wpAny_pure (wpAny_pure z)
    | (wp_walk; exact z)
theorem call_any (F : ExcBaseFacts B newId initId bN) (T : Tl B bm) {us : List Value} {kw : List (Str × Value)} {fI : Addr}
    (oC : h.get? C = some (excClassObj nm q C N bs bm hdct sn sub ab col dd k0 k1 k2 k3 k5 newId))
    (hi : Looks (model prog w) h (typeLookup (.ref C) "__init__") (some (.ref fI))) (hb : ∀ self, Looks (model prog w) h (bindSpecial (.ref fI) self) (.ref fI, [self])) (hz : us.length ≤ sizeLine)
    (hq : codeAny (model prog w) (A.under (.builtin "type.__call__" ⟨.ref C :: us, kw⟩)) (.call (.ref fI) ⟨.ref (h.objs.size + 1) :: us, kw⟩) (InitBack (h.objs.size + 1) R)
      ⟨(h.push (kdv_tup us)).push (PX.excO C h.objs.size), g, d, t, os⟩) :
    codeAny (model prog w) A (.call (.ref C) ⟨us, kw⟩) R ⟨h, g, d, t, os⟩ := by
  have f1 := tc_lookup
  have f2 := tc_bind (.ref C)
  have hTy : (⟨h, g, d, t, os⟩ : Shared).TypeIs (.ref C) "type" := ⟨_, oC, rfl⟩
  refine codeAny_of_tree ?_
  show wpAny _ _ (callAny (.ref C) _) _ _ _
  repeat (any_goals (first | assumption | with_reducible refine wpAny_loadPart_at oC ?_ | wp_step))
  refine ⟨rfl, ?_⟩
  refine codeAny_call_builtin_at (Code.quiet_builtin _ (by decide +kernel)) entry_typeCall (wpAny_check_type_call_sub oC (tcall_any F T oC hi hb hz ?_))
  refine codeAny_mono hq fun r s' z => ?_
  rcases r with e | (v | _ | _ | _) <;> exact z
end
end Er

set_option Elab.async false
set_option linter.all false
set_option maxRecDepth 100000
set_option maxHeartbeats 4000000
/-! Er2: super().__init__(e) within an error's own __init__. -/
namespace Er
open PySem PySem.W PySem.Calls
/-- the built-in __init__ that super() finds -/
structure IniF (B i : String) : Prop where
  plain : plainId i = true
  entry : entryFor table i = some Builtin.«BaseException.__init__»
  kind : builtinKind i = some .slot
  row : Manifest.signature? i = some ⟨.positional, "*", B, .self, [⟨"args", .varPos, false⟩]⟩
  star : (B != "*") = true
  kx : KxsFacts B i
theorem IniF.of {B n i : String} (F : ExcCallFacts B n i) (k : KxsFacts B i) : IniF B i := ⟨F.init.plain, F.initEntry, F.initKind, F.initRow, F.noStar, k⟩
theorem ini_Key : IniF "KeyError" "KeyError.__init__" where
  plain := by decide +kernel
  entry := entryFor_alias (id' := "BaseException.__init__") (by rw [fastTable_eq_tree]; kernel_rfl) (by first | rfl | decide +kernel) (by decide +kernel) (by rw [fastTable_eq_tree]; kernel_rfl)
  kind := by kernel_rfl
  row := by kernel_rfl
  star := by decide +kernel
  kx := ⟨by show builtinType _ = _; rw [builtinType_eq_fast]; kernel_rfl, by first | kernel_rfl | rfl⟩
/-- one object, perhaps, is another; all others stay -/
def But (x : Addr) (h h' : Heap) : Prop := ∀ b o, b ≠ x → h.get? b = some o → h'.get? b = some o
theorem But.trans {x : Addr} {a b c : Heap} (p : But x a b) (q : But x b c) : But x a c := fun y o n e => q y o n (p y o n e)
theorem But.all {x : Addr} {h h' : Heap} (k : ∀ b o, h.get? b = some o → h'.get? b = some o) : But x h h' := fun b o _ e => k b o e
theorem ns_but {x L : Addr} {h h' : Heap} {m : Str → Option Value} (k : But x h h') (ne : L ≠ x) (n : h.Ns L m) : h'.Ns L m := by
  obtain ⟨o, es, ep, e, r⟩ := n
  exact ⟨o, es, ep, k _ _ ne e, r⟩
section
variable {M : Model} {A : Around} {E : Value → Shared → Prop} {h : Heap} {g : Array GenState} {d : Drawn} {t : Nat} {os : OsState}
theorem chk_bound {B i newId : String} (F : IniF B i) {nm q : Str} {C N e : Addr} {oe : Obj} {bs bm : List Value} {hdct : Bool} {sn : List Str} {sub : List Value} {ab : Bool} {col : Option Bool} {dd : Option Addr} {k0 k1 k2 k3 k5 : Option Value} {us : List Value} {Q : Unit → Shared → Prop}
    (oC : h.get? C = some (excClassObj nm q C N bs bm hdct sn sub ab col dd k0 k1 k2 k3 k5 newId)) (he : h.get? e = some oe) (hc : oe.cls = .ref C) (hq : Q () ⟨h, g, d, t, os⟩) : wpAny M A (checkBoundCall i ⟨.ref e :: us, []⟩) Q E ⟨h, g, d, t, os⟩ := by
  have st := F.star
  simp only [checkBoundCall, F.kind, F.row]
  repeat (first | (with_reducible refine wpAny_loadPart_at he ?_; rw [hc]) | with_reducible refine wpAny_loadPart_at oC ?_ | wp_step)
  refine wpAny_onRaise ?_
  rw [show ∀ (a b : String) (n : Nat), Bind.check ⟨.positional, "*", B, .self, [⟨"args", .varPos, false⟩]⟩ a b n (List.map (fun x => x.fst) ({ pos := Value.ref e :: us } : Args).kw) = pure () from fun a b n => check_star_args _ _ _ _ _ _]
  exact wpAny_pure hq
end
section
variable {prog : Program} {w : World} {A : Around} {E : Value → Shared → Prop} {h : Heap} {g : Array GenState} {d : Drawn} {t : Nat} {os : OsState}
/-- the wrapper is called: the args are laid anew -/
theorem call_wr {B i newId : String} (F : IniF B i) {nm q : Str} {C N e u t0 : Addr} {bs bm : List Value} {hdct : Bool} {sn : List Str} {sub : List Value} {ab : Bool} {col : Option Bool} {dd : Option Addr} {k0 k1 k2 k3 k5 : Option Value} {us : List Value} {Q : Value → Shared → Prop}
    (oC : h.get? C = some (excClassObj nm q C N bs bm hdct sn sub ab col dd k0 k1 k2 k3 k5 newId)) (he : h.get? e = some (PX.excO C t0)) (hu : h.get? u = some (kxs_mw i e)) (hz : us.length ≤ sizeLine)
    (hq : ∀ h' t1, But e h h' → h'.get? e = some (PX.excO C t1) → Q .none ⟨h', g, d, t, os⟩) : wpAny (model prog w) A (call (.ref u) us) Q E ⟨h, g, d, t, os⟩ := by
  refine wpAny_call (codeAny_of_tree ?_)
  show wpAny _ A.in1 (callAny (.ref u) ⟨us, []⟩) _ _ _
  simp only [callAny]
  refine wpAny_bind (wpAny_load hu ?_)
  simp only [kxs_mw, show (Value.type "method-wrapper" == Value.type "method" || Value.type "method-wrapper" == Value.type "builtin_function_or_method" || Value.type "method-wrapper" == Value.type "method-wrapper") = true by decide, if_true]
  refine KFB.if_so (by decide) ?_
  refine wpAny_bind (chk_bound F oC he rfl ?_)
  refine wpAny_bind (wpAny_pure (wpAny_pure ?_))
  refine ⟨plainId_quiet F.plain _, codeAny_builtin F.entry ?_⟩
  exact exc_init_tree (cls := .ref C) (t0 := t0) (dv := none) (c2 := .none) (c3 := .none) (b4 := .bool false) he hz fun h' k e' _ => hq h' h.objs.size k e'
end
/-- what is known of the class C at K: its object, its mro behind itself, where super() looks -/
structure ClsE (K : Frag) (C : Addr) (bmB : List Value) (BN B i newId : String) : Prop where
  ini : excInitIn K C bmB newId = true
  tl : Tl BN bmB
  sup : ks_superIn K C C "__init__" = some (some (.builtin i))
  own : mroIn K C (.ref C) = some true
  inB : subIn K (.ref C) (.type B) = some true
  opq : nsIn K cStatics "thirdparty.any" = some none
section
variable {prog : Program} {w : World} {A : Around} {E : Value → Shared → Prop} {s : Shared} {K : Frag} {mg mb m : Str → Option Value} {x C cc cda L f t0 : Addr} {B i newId BN : String} {bmB : List Value}
theorem super_at {body : List Stmt} {q : Str} {scope : Scope} {p0 p1 p2 p3 p4 : Pos} {e : Expr} {fd : FuncData} {of : Obj} {ar : Arg} {vs : Array Value} {file : Str} {tf : Tok} {oc oc2 : Obj} {Q : Flow → Shared → Prop} (F : IniF B i) (T : ClsE K C bmB BN B i newId)
    (X : K.In s.heap) (G : s.heap.Ns mainGlobals mg) (hm : mg "super" = none) (Bt : s.heap.Ns builtinsNs mb) (hmb : mb "super" = some (.type "super")) (hL : s.heap.Ns L m) (hself : m ar.arg = some (.ref x)) (he : s.heap.get? x = some (PX.excO C t0)) (neL : L ≠ x)
    (hf : s.heap.get? f = some of) (hfd : of.data = .func fd) (hp : (fd.params.posonlyargs ++ fd.params.args).head? = some ar) (hcode : s.heap.get? cda = some oc) (hoc : oc.data = .fields vs) (hvs : vs[2]? = some (.str file tf)) (hfile : ((prog.main.file : Str) == file) = true)
    (hcell : s.heap.get? cc = some oc2) (hcd : oc2.data = .cell (some (.ref C)))
    (hks : scope.names.lookup ("super" : Str) = some .globalImplicit) (hkc : scope.names.lookup ("__class__" : Str) = some .free) (hka : scope.names.lookup ar.arg = some .local) (hk : scope.kind = .function) (htop : (prog.main.scope.names.lookup ("super" : Str)).isSome = false)
    (hev : ∀ s1 : Shared, s1.heap.Ns L m → (∀ b o, s.heap.get? b = some o → s1.heap.get? b = some o) → ∀ Q' : Value → Shared → Prop, (∀ u h' tk, (∀ b o, s1.heap.get? b = some o → h'.get? b = some o) → Q' u { s1 with heap := h', toks := tk }) →
      wpAny (model prog w) A (eval e (ksEnv q scope L f (.ref cda) cc)) Q' E s1)
    (hin : interactive (ksEnv q scope L f (.ref cda) cc) = false)
    (hs : swapsWith (.Call (.Attribute (.Call (.Name "super" p0) [] [] p1) "__init__" p2) [e] [] p3) none p4.line (ksEnv q scope L f (.ref cda) cc) = pure false) (hst : starEach [e] (ksEnv q scope L f (.ref cda) cc) = (false, eval e (ksEnv q scope L f (.ref cda) cc)) :: starEach [] (ksEnv q scope L f (.ref cda) cc))
    (hcall : ∃ pl, eval (.Call (.Attribute (.Call (.Name "super" p0) [] [] p1) "__init__" p2) [e] [] p3) (ksEnv q scope L f (.ref cda) cc) = (do
      let ov ← attributeBase (.Call (.Name "super" p0) [] [] p1) "__init__" (ksEnv q scope L f (.ref cda) cc) (eval (.Call (.Name "super" p0) [] [] p1) (ksEnv q scope L f (.ref cda) cc))
      standAt p2.atName
      let (fn, first) ← holding [ov] (getMethod ov "__init__" pl)
      callWith p3 fn first (backTo p3 (starEach [e] (ksEnv q scope L f (.ref cda) cc))) []))
    (hq : ∀ h' t1 tk, But x s.heap h' → h'.get? x = some (PX.excO C t1) → Q .next { s with heap := h', toks := tk }) :
    _root_.PySem.wpAt (model prog w) A (.func body (ksEnv q scope L f (.ref cda) cc)) (exec (.Expr (.Call (.Attribute (.Call (.Name "super" p0) [] [] p1) "__init__" p2) [e] [] p3) p4) (ksEnv q scope L f (.ref cda) cc)) Q E s := by
  obtain ⟨nm, N, qn, bs, bm, hdct, sn, sub, ab, col, dd, k0, k1, k2, k3, k5, oC, _⟩ := excInit_of X T.ini
  obtain ⟨pl, hcall⟩ := hcall
  refine ks_wpAt_Expr_any (hi := hin) (hs := hs) ?_
  refine ks_wpAt_MethodCall (pl := pl) ?_ hcall
  refine ks_wpAt_super_base (env := ksEnv q scope L f (.ref cda) cc) hks hkc (by decide) rfl hf hfd hp rfl hcode hoc hvs hfile htop ?_
  refine ks_loadName_global hk hks (loadGlobal_builtin (env := ksEnv q scope L f (.ref cda) cc) G hm Bt hmb ⟨rfl, ?_⟩)
  refine wpAny_loadName_free hk hkc rfl ⟨_, hcell, hcd⟩ ?_
  refine wpAny_loadName_local hk hka hL hself ?_
  refine ks_wpAny_isType_cls oC rfl ⟨rfl, ?_⟩
  obtain ⟨hh, g, d, t, os⟩ := s
  refine ks_wpAny_call_super oC rfl he rfl (fun c z => by cases z) (looks_mroIn X T.own) (fun h1 e1 kp1 => ?_)
  have X1 : K.In h1 := X.keeps kp1
  have I1 : InstAt h1 x (PX.excO C t0) C none := ⟨kp1 _ _ he, rfl, rfl, trivial⟩
  have hI : Looks (model prog w) h1 (isInstance (.ref x) (.type B)) true := I1.type.andThen (looks_subIn X1 T.inB)
  have hs := T.sup
  cases hc : clsIn K C with
  | none => unfold ks_superIn at hs; rw [hc] at hs; cases hs
  | some cd =>
    unfold ks_superIn at hs
    rw [hc] at hs
    refine kxs_getMethod F.kx e1 (looks_opaque X1 T.opq) (l₀ := cd.mro) ?_ rfl X1 hs hI (ks_ne X1 I1 hc) (by decide) ?_
    · exact fun A Q E s k q => wpAny_bind ((looks_clsIn X1 hc) A _ E s k (wpAny_pure q))
    · have kp2 : ∀ b o, hh.get? b = some o → (h1.push (kxs_mw i x)).get? b = some o := fun b o z => Heap.get?_push_of_some _ (kp1 b o z)
      have ou : (h1.push (kxs_mw i x)).get? h1.objs.size = some (kxs_mw i x) := Heap.get?_push_at rfl rfl
      dsimp only
      rw [hst]
      refine kxs_callWith (i := i) (x := x) (first := []) (by rfl) (evalArgs_plain (spliced_cons (hev _ (ns_but (x := x) (But.all kp2) neL hL) kp2 _ fun u h2 tk kp3 => spliced_nil ⟨kp3 _ _ ou, ?_⟩)))
      refine call_wr F (kp3 _ _ (kp2 _ _ oC)) (kp3 _ _ (kp2 _ _ he)) (kp3 _ _ ou) (by show 1 ≤ sizeLine; rw [sizeLine_eq]; omega) fun h3 t1 k3 e3 => ?_
      exact hq h3 t1 _ ((But.all kp2).trans ((But.all kp3).trans k3)) e3
end
end Er

set_option Elab.async false
set_option linter.all false
set_option maxRecDepth 100000
set_option maxHeartbeats 4000000
/-! Er3: the fields of an error stored; its whole __init__. -/
namespace PySem.F
theorem keyStore : StoreFacts "KeyError" [.type "KeyError", .type "LookupError", .type "Exception", .type "BaseException", .type "object"] "object.__setattr__" "object" where
  mro := by kernel_rfl
  slot := .of (owner := "object") (n := "__setattr__") (by rw [typeLookup_type, builtinLookup_eq_fast]; kernel_rfl) (by decide +kernel) (by decide +kernel) (by decide +kernel) (by first | exact .inl (by decide +kernel) | exact .inr (by decide +kernel)) (by rw [isSubtype_type]; kernel_rfl)
  entry := entry_object_sa
  kind := by decide +kernel
  split := by decide +kernel
  hasOwner := by decide +kernel
  args := fun a b c => by unfold argsOk; kernel_rfl
  passes := fun self => by kernel_rfl
end PySem.F
namespace Er
open PySem PySem.W PySem.Calls
/-- an error with a dict -/
abbrev exD (C t dx : Addr) : Obj := { cls := .ref C, dict := some dx, data := .fields #[.ref t, .none, .none, .none, .bool false, .none] }
structure StE (K : Frag) (C : Addr) (bmB : List Value) : Prop where
  sa : findIn K (.ref C) "__setattr__" = some (some (.builtin "object.__setattr__"))
  ov : excOver K C bmB = true
  hd : hasDictIn K C = true
section
open Builtin Builtin.ObjectAttr
variable {prog : Program} {w : World} {A : Around} {E : Value → Shared → Prop} {hp : Heap} {g : Array GenState} {d : Drawn} {t : Nat} {os : OsState} {K : Frag} {x C dx t1 : Addr} {f : Str} {v : Value} {B : String} {bmB : List Value} {Q : Unit → Shared → Prop}
theorem set0 (SF : StoreFacts B bmB "object.__setattr__" "object") (T : StE K C bmB) (X : K.In hp) (hx : hp.get? x = some (PX.excO C t1)) (ht : takerIn K C f = some none)
    (hq : ∀ h' tk dx, But x hp h' → hp.objs.size ≤ dx → dx ≠ x → h'.get? x = some (exD C t1 dx) → h'.Ns1 dx (fun y => if y = f then some v else none) → Q () ⟨h', g, d, tk, os⟩) : wpAny (model prog w) A (setAttr (.ref x) f v) Q E ⟨hp, g, d, t, os⟩ := by
  have I : InstAt hp x (PX.excO C t1) C none := ⟨hx, rfl, rfl, trivial⟩
  have hxs : x ≠ hp.objs.size := Nat.ne_of_lt (Heap.lt_size hx)
  refine set_plain (od := none) X I T.sa (osa_openX (s := ⟨hp, g, d, t + 1, os⟩) SF X I T.ov ht fun b => ?_)
  obtain ⟨cd, hc, hd'⟩ := any_some T.hd
  have hcls : Looks (model prog w) hp (classData C) cd := looks_clsIn X hc
  obtain ⟨nm, bs, mro, ns, qn, hd, sn, sb, ab, col, del⟩ := cd
  dsimp only at hd'
  subst hd'
  show wpAny _ _ (storeInOwnDict (.ref x) (.ref C) (.str f t) f v b) _ _ _
  unfold storeInOwnDict ownDictForStores
  repeat (first | with_reducible refine PX.store_in_new ?_ ?_ | with_reducible refine wpAny_loadPart_at hx ?_ | with_reducible refine hcls.at ?_ | wp_step)
  · exact ⟨_, #[], _, (Heap.get?_update_ne _ _ _ _ hxs.symm).trans (Heap.get?_push_at rfl rfl), rfl, fun e he => absurd he (by simp), fun _ => rfl⟩
  · intro h' tk' hn' hs
    have hx₁ : (hp.push { cls := .type "dict", data := .dict #[] }).get? x = some (PX.excO C t1) := Heap.get?_push_of_some _ hx
    refine hq h' tk' hp.objs.size (fun b o hb ho => ?_) (Nat.le_refl _) hxs.symm ?_ hn'
    · exact (hs.2 b (Nat.ne_of_lt (Heap.lt_size ho))).trans ((Heap.get?_update_ne _ _ _ _ hb).trans (Heap.get?_push_of_some _ ho))
    · exact (hs.2 x hxs).trans (Heap.get?_update_self _ hx₁ rfl)
theorem set1 {m0 : Str → Option Value} {ns : List Str} (SF : StoreFacts B bmB "object.__setattr__" "object") (T : StE K C bmB) (X : K.In hp) (hx : hp.get? x = some (exD C t1 dx)) (ht : takerIn K C f = some none) (hn : hp.Ns1 dx m0) (hw : Within m0 ns) (hz : ns.length ≤ 900)
    (hq : ∀ h' tk, But dx hp h' → h'.Ns1 dx (fun y => if y = f then some v else m0 y) → Q () ⟨h', g, d, tk, os⟩) : wpAny (model prog w) A (setAttr (.ref x) f v) Q E ⟨hp, g, d, t, os⟩ := by
  obtain ⟨oD, esD, epD, hoD, hdD, _⟩ := hn.count hw
  have I : InstAt hp x (exD C t1 dx) C (some oD) := ⟨hx, rfl, rfl, hoD⟩
  refine set_plain (od := some oD) X I T.sa (osa_openX (s := ⟨hp, g, d, t + 1, os⟩) SF X I T.ov ht fun b => ?_)
  obtain ⟨cd, hc, hd'⟩ := any_some T.hd
  have hcls : Looks (model prog w) hp (classData C) cd := looks_clsIn X hc
  obtain ⟨nm, bs, mro, nn, qn, hd, sn, sb, ab, col, del⟩ := cd
  dsimp only at hd'
  subst hd'
  show wpAny _ _ (storeInOwnDict (.ref x) (.ref C) (.str f t) f v b) _ _ _
  unfold storeInOwnDict ownDictForStores
  repeat (first | with_reducible refine OEX.store_in_old hn hw (Nat.le_trans hz (by decide)) ?_ | with_reducible refine wpAny_loadPart_at hx ?_ | with_reducible refine hcls.at ?_ | wp_step)
  intro h' tk' hn' hs
  exact hq h' tk' (fun b o hb ho => (hs.2 b hb).trans ho) hn'
end
section
variable {prog : Program} {w : World} {A : Around} {E : Value → Shared → Prop} {s : Shared} {env : Env} {m : Str → Option Value} {f : Str} {x : Addr} {v : Value} {Q : Flow → Shared → Prop} {p1 p2 p3 p4 : Pos} {sf : Str}
/-- self.f = f -/
theorem field_st (hk : env.scope.kind = .function) (hL : s.heap.Ns env.locals m) (hf : m f = some v) (hs : m sf = some (.ref x)) (hkf : env.kindOf f = some .local) (hks : env.kindOf sf = some .local)
    (h : wpAny (model prog w) A (setAttr (.ref x) f v) (fun _ => Q .next) E s) (hd : (f == ("__debug__" : Str)) = false) (hd2 : (sf == ("__debug__" : Str)) = false) (hw : swapsWith (.Name f p3) (some (.Attribute (.Name sf p1) f p2)) p4.line env = pure false) :
    wpAny (model prog w) A (exec (.Assign [.Attribute (.Name sf p1) f p2] (.Name f p3) p4) env) Q E s :=
  plainObj_wpAny_Assign_Attribute (wpAny_Name (wpAny_loadName_local hk hkf hL hf (wpAny_Name (wpAny_loadName_local hk hks hL hs h) hd2)) hd) hw
end
end Er

set_option Elab.async false
set_option linter.all false
set_option maxRecDepth 100000
set_option maxHeartbeats 4000000
/-! Er4: an error's __init__: super().__init__(e), then one field or two. -/
namespace Er
open PySem PySem.W PySem.Calls
/-- the rows of the text that Lean finds by itself -/
structure Syn (env : Env) (e : Expr) (p0 p1 p2 p3 p4 : Pos) : Prop where
  hin : interactive env = false
  hs : swapsWith (.Call (.Attribute (.Call (.Name "super" p0) [] [] p1) "__init__" p2) [e] [] p3) none p4.line env = pure false
  hst : starEach [e] env = (false, eval e env) :: starEach [] env
  hcall : ∃ pl, eval (.Call (.Attribute (.Call (.Name "super" p0) [] [] p1) "__init__" p2) [e] [] p3) env = (do
      let ov ← attributeBase (.Call (.Name "super" p0) [] [] p1) "__init__" env (eval (.Call (.Name "super" p0) [] [] p1) env)
      standAt p2.atName
      let (fn, first) ← holding [ov] (getMethod ov "__init__" pl)
      callWith p3 fn first (backTo p3 (starEach [e] env)) [])
/-- the def's own object, its code, its cell -/
structure FnI (prog : Program) (K : Frag) (C fI cda cc : Addr) (qual : Str) (params : Arguments) (body : List Stmt) (scope : Scope) : Prop where
  fn : ∃ oc od kV doc pm an ct osl, K.lookup fI = some ⟨oc, od, .func (ksFn "__init__" qual params body scope .none kV doc pm an (.ref cda) ct cc), osl⟩
  code : codeIn K (.ref cda) qual = true
  file : ∃ ccl cdd vs ccs file tf, K.lookup cda = some ⟨ccl, cdd, .fields vs, ccs⟩ ∧ vs[2]? = some (.str file tf) ∧ ((prog.main.file : Str) == file) = true
  cell : ∃ cl cld csl, K.lookup cc = some ⟨cl, cld, .cell (some (.ref C)), csl⟩
  super : scope.names.lookup ("super" : Str) = some .globalImplicit
  cls : scope.names.lookup ("__class__" : Str) = some .free
  self : scope.names.lookup ("self" : Str) = some .local
  kind : scope.kind = .function
  co : scope.isCoroutine = false
  gen : scope.isGenerator = false
  nocell : ∀ x ∈ scope.names, x.2 ≠ .cell
  top : (prog.main.scope.names.lookup ("super" : Str)).isSome = false
  par : ∃ ar, (params.posonlyargs ++ params.args).head? = some ar ∧ ar.arg = "self"
section
variable {prog : Program} {w : World} {A : Around} {R : Result → Shared → Prop} {s : Shared} {K : Frag} {mg mb : Str → Option Value} {x C cc cda fI t0 : Addr} {B i newId B2 BN : String} {bmB bmC : List Value}
variable {qual : Str} {params : Arguments} {body : List Stmt} {scope : Scope} {p0 p1 p2 p3 p4 q1 q2 q3 q4 r1 r2 r3 r4 : Pos} {e : Expr} {f f2 : Str} {v v2 : Value} {args : Args} {fd : FuncData}
/-- what the message's text does: it is made, whatever it is -/
def Made (prog : Program) (w : World) (A : Around) (e : Expr) (env : Env) (s : Shared) (m : Str → Option Value) : Prop :=
  ∀ (E : Value → Shared → Prop) (s1 : Shared), s1.heap.Ns env.locals m → (∀ b o, s.heap.get? b = some o → s1.heap.get? b = some o) → ∀ Q' : Value → Shared → Prop, (∀ u h' tk, (∀ b o, s1.heap.get? b = some o → h'.get? b = some o) → Q' u { s1 with heap := h', toks := tk }) →
    wpAny (model prog w) A (eval e env) Q' E s1
theorem init_one (F : IniF B i) (T : ClsE K C bmC BN B i newId) (SF : StoreFacts B2 bmB "object.__setattr__" "object") (S : StE K C bmB) (FI : FnI prog K C fI cda cc qual params body scope)
    (hb : body = [.Expr (.Call (.Attribute (.Call (.Name "super" p0) [] [] p1) "__init__" p2) [e] [] p3) p4, .Assign [.Attribute (.Name "self" q1) f q2] (.Name f q3) q4])
    (hsy : ∀ L, Syn (ksEnv qual scope L fI (.ref cda) cc) e p0 p1 p2 p3 p4) (hsw : ∀ L, swapsWith (.Name f q3) (some (.Attribute (.Name "self" q1) f q2)) q4.line (ksEnv qual scope L fI (.ref cda) cc) = pure false)
    (hkf : scope.names.lookup f = some .local) (hfd : (f == ("__debug__" : Str)) = false) (hne : ("self" : Str) ≠ f) (ht : takerIn K C f = some none)
    (X : K.In s.heap) (G : s.heap.Ns mainGlobals mg) (hm : mg "super" = none) (Bt : s.heap.Ns builtinsNs mb) (hmb : mb "super" = some (.type "super")) (lim : s.heap.NoLimit) (room : A.depth < recursionLimit) (he : s.heap.get? x = some (PX.excO C t0)) (hxK : ∀ o, K.lookup x = some o → False)
    (hbind : ∀ oc od kV doc pm an ct osl, K.lookup fI = some ⟨oc, od, .func (ksFn "__init__" qual params body scope .none kV doc pm an (.ref cda) ct cc), osl⟩ → BindsTo s (ksFn "__init__" qual params body scope .none kV doc pm an (.ref cda) ct cc) args [("self", .ref x), (f, v)])
    (hev : ∀ s1 : Shared, (∀ b o, s.heap.get? b = some o → s1.heap.get? b = some o) → Made prog w (A.deeper (ksEnv qual scope s.heap.objs.size fI (.ref cda) cc)) e (ksEnv qual scope s.heap.objs.size fI (.ref cda) cc) s1 (fun y => ([("self", .ref x), (f, v)] : List (Str × Value)).reverse.lookup y))
    (hq : ∀ h' t1 dx tk, But x s.heap h' → s.heap.objs.size ≤ dx → dx ≠ x → h'.get? x = some (exD C t1 dx) → h'.Ns1 dx (fun y => if y = f then some v else none) → R (.ok (.ret .none)) { s with heap := h', toks := tk }) :
    codeAny (model prog w) A (.call (.ref fI) args) R s := by
  obtain ⟨oc, od, kV, doc, pm, an, ct, osl, lf⟩ := FI.fn
  obtain ⟨ccl, cdd, vs, ccs, file, tf, lcd, hvs, hfile⟩ := FI.file
  obtain ⟨cl, cld, csl, lcc⟩ := FI.cell
  obtain ⟨ar, hp, har⟩ := FI.par
  have ok := FI.self
  refine ks_codeAny_call_defAt (fd := ksFn "__init__" qual params body scope .none kV doc pm an (.ref cda) ct cc) (body := body) (binds := [("self", .ref x), (f, v)]) room (X _ _ lf) rfl lim (codeRec_of X FI.code) rfl (hbind _ _ _ _ _ _ _ _ lf) FI.nocell ?_ (fun h₁ hns kp => ?_) FI.co FI.gen FI.kind
  · intro y hy
    rcases List.mem_cons.mp hy with rfl | hy
    · exact ok
    · rcases List.mem_cons.mp hy with rfl | hy
      · exact hkf
      · cases hy
  show _root_.PySem.wpAt (model prog w) (A.deeper (ksEnv qual scope s.heap.objs.size fI (.ref cda) cc)) (.func body (ksEnv qual scope s.heap.objs.size fI (.ref cda) cc)) (execs body (ksEnv qual scope s.heap.objs.size fI (.ref cda) cc)) _ _ _
  have hx : x < s.heap.objs.size := Heap.lt_size he
  have neL : s.heap.objs.size ≠ x := Nat.ne_of_gt hx
  have X1 : K.In h₁ := X.keeps kp
  have sy := hsy s.heap.objs.size
  have ls : (fun y => ([("self", Value.ref x), (f, v)] : List (Str × Value)).reverse.lookup y) "self" = some (.ref x) := by
    have e0 : (("self" : Str) == f) = false := beq_eq_false_iff_ne.mpr hne
    simp [List.lookup, e0]
  have lfv : (fun y => ([("self", Value.ref x), (f, v)] : List (Str × Value)).reverse.lookup y) f = some v := by simp [List.lookup]
  suffices hh : ∀ bd, _root_.PySem.wpAt (model prog w) (A.deeper (ksEnv qual scope s.heap.objs.size fI (.ref cda) cc)) (.func bd (ksEnv qual scope s.heap.objs.size fI (.ref cda) cc)) (execs body (ksEnv qual scope s.heap.objs.size fI (.ref cda) cc)) (fun fl s' => R (.ok (.ret (match fl with | .ret v => v | _ => .none))) s') (fun e s' => wpAny (model prog w) (A.deeper (ksEnv qual scope s.heap.objs.size fI (.ref cda) cc)) (leaving (ksEnv qual scope s.heap.objs.size fI (.ref cda) cc) e) (fun _ s'' => R (.error e) s'') (fun e' s'' => R (.error e') s'') s') { s with heap := h₁, toks := s.toks + 2 } from hh body
  intro bd
  rw [hb]
  refine ks_wpAt_execs_cons ?_
  refine super_at (s := { s with heap := h₁, toks := s.toks + 2 }) (mg := mg) (mb := mb) (m := fun y => ([("self", .ref x), (f, v)] : List (Str × Value)).reverse.lookup y) (ar := ar) F T X1 (G.keeps kp) hm
    (Bt.keeps kp) hmb hns (by rw [har]; exact ls) (kp _ _ he) neL (X1 _ _ lf) rfl hp (X1 _ _ lcd) rfl hvs hfile (X1 _ _ lcc) rfl FI.super FI.cls (by rw [har]; exact ok) FI.kind FI.top
    (fun s1 n1 k1 Q' hQ' => hev { s with heap := h₁, toks := s.toks + 2 } kp _ s1 n1 k1 Q' hQ') sy.hin sy.hs sy.hst sy.hcall ?_
  intro h2 t1 tk k2 e2
  dsimp only
  refine ks_wpAt_execs_cons (_root_.PySem.wpAt_of_wpAny ?_)
  have n2 := ns_but k2 neL hns
  have X2 : K.In h2 := fun b o z => k2 b o (fun y => hxK o (by rw [← y]; exact z)) (X1 _ _ z)
  exact field_st (env := ksEnv qual scope s.heap.objs.size fI (.ref cda) cc) FI.kind n2 lfv ls hkf ok (set0 SF S X2 e2 ht fun h3 tk3 dx k3 hd nd e3 n3 => _root_.PySem.wpAt_of_wpAny (wpAny_execs_nil (hq h3 t1 dx _ ((But.all kp).trans (k2.trans k3)) (by obtain ⟨o, es, ep, e, _⟩ := n2; exact Nat.le_of_lt (Nat.lt_of_lt_of_le (Heap.lt_size e) hd)) nd e3 n3))) hfd (by decide) (hsw _)
theorem init_two (F : IniF B i) (T : ClsE K C bmC BN B i newId) (SF : StoreFacts B2 bmB "object.__setattr__" "object") (S : StE K C bmB) (FI : FnI prog K C fI cda cc qual params body scope)
    (hb : body = [.Expr (.Call (.Attribute (.Call (.Name "super" p0) [] [] p1) "__init__" p2) [e] [] p3) p4, .Assign [.Attribute (.Name "self" q1) f q2] (.Name f q3) q4, .Assign [.Attribute (.Name "self" r1) f2 r2] (.Name f2 r3) r4])
    (hsy : ∀ L, Syn (ksEnv qual scope L fI (.ref cda) cc) e p0 p1 p2 p3 p4) (hsw : ∀ L, swapsWith (.Name f q3) (some (.Attribute (.Name "self" q1) f q2)) q4.line (ksEnv qual scope L fI (.ref cda) cc) = pure false)
    (hsw2 : ∀ L, swapsWith (.Name f2 r3) (some (.Attribute (.Name "self" r1) f2 r2)) r4.line (ksEnv qual scope L fI (.ref cda) cc) = pure false) (hkf2 : scope.names.lookup f2 = some .local) (hfd2 : (f2 == ("__debug__" : Str)) = false) (hne2 : ("self" : Str) ≠ f2) (ht2 : takerIn K C f2 = some none) (hnf : f2 ≠ f)
    (hkf : scope.names.lookup f = some .local) (hfd : (f == ("__debug__" : Str)) = false) (hne : ("self" : Str) ≠ f) (ht : takerIn K C f = some none)
    (X : K.In s.heap) (G : s.heap.Ns mainGlobals mg) (hm : mg "super" = none) (Bt : s.heap.Ns builtinsNs mb) (hmb : mb "super" = some (.type "super")) (lim : s.heap.NoLimit) (room : A.depth < recursionLimit) (he : s.heap.get? x = some (PX.excO C t0)) (hxK : ∀ o, K.lookup x = some o → False)
    (hbind : ∀ oc od kV doc pm an ct osl, K.lookup fI = some ⟨oc, od, .func (ksFn "__init__" qual params body scope .none kV doc pm an (.ref cda) ct cc), osl⟩ → BindsTo s (ksFn "__init__" qual params body scope .none kV doc pm an (.ref cda) ct cc) args [("self", .ref x), (f, v), (f2, v2)])
    (hev : ∀ s1 : Shared, (∀ b o, s.heap.get? b = some o → s1.heap.get? b = some o) → Made prog w (A.deeper (ksEnv qual scope s.heap.objs.size fI (.ref cda) cc)) e (ksEnv qual scope s.heap.objs.size fI (.ref cda) cc) s1 (fun y => ([("self", .ref x), (f, v), (f2, v2)] : List (Str × Value)).reverse.lookup y))
    (hq : ∀ h' t1 dx tk, But x s.heap h' → s.heap.objs.size ≤ dx → dx ≠ x → h'.get? x = some (exD C t1 dx) → h'.Ns1 dx (fun y => if y = f2 then some v2 else if y = f then some v else none) → R (.ok (.ret .none)) { s with heap := h', toks := tk }) :
    codeAny (model prog w) A (.call (.ref fI) args) R s := by
  obtain ⟨oc, od, kV, doc, pm, an, ct, osl, lf⟩ := FI.fn
  obtain ⟨ccl, cdd, vs, ccs, file, tf, lcd, hvs, hfile⟩ := FI.file
  obtain ⟨cl, cld, csl, lcc⟩ := FI.cell
  obtain ⟨ar, hp, har⟩ := FI.par
  have ok := FI.self
  refine ks_codeAny_call_defAt (fd := ksFn "__init__" qual params body scope .none kV doc pm an (.ref cda) ct cc) (body := body) (binds := [("self", .ref x), (f, v), (f2, v2)]) room (X _ _ lf) rfl lim (codeRec_of X FI.code) rfl (hbind _ _ _ _ _ _ _ _ lf) FI.nocell ?_ (fun h₁ hns kp => ?_) FI.co FI.gen FI.kind
  · intro y hy
    rcases List.mem_cons.mp hy with rfl | hy
    · exact ok
    · rcases List.mem_cons.mp hy with rfl | hy
      · exact hkf
      · rcases List.mem_cons.mp hy with rfl | hy
        · exact hkf2
        · cases hy
  show _root_.PySem.wpAt (model prog w) (A.deeper (ksEnv qual scope s.heap.objs.size fI (.ref cda) cc)) (.func body (ksEnv qual scope s.heap.objs.size fI (.ref cda) cc)) (execs body (ksEnv qual scope s.heap.objs.size fI (.ref cda) cc)) _ _ _
  have hx : x < s.heap.objs.size := Heap.lt_size he
  have neL : s.heap.objs.size ≠ x := Nat.ne_of_gt hx
  have X1 : K.In h₁ := X.keeps kp
  have sy := hsy s.heap.objs.size
  have ls : (fun y => ([("self", Value.ref x), (f, v), (f2, v2)] : List (Str × Value)).reverse.lookup y) "self" = some (.ref x) := by
    have e0 : (("self" : Str) == f) = false := beq_eq_false_iff_ne.mpr hne
    have e1 : (("self" : Str) == f2) = false := beq_eq_false_iff_ne.mpr hne2
    simp [List.lookup, e0, e1]
  have lfv : (fun y => ([("self", Value.ref x), (f, v), (f2, v2)] : List (Str × Value)).reverse.lookup y) f = some v := by
    have e1 : (f == f2) = false := beq_eq_false_iff_ne.mpr hnf.symm
    simp [List.lookup, e1]
  have lfv2 : (fun y => ([("self", Value.ref x), (f, v), (f2, v2)] : List (Str × Value)).reverse.lookup y) f2 = some v2 := by simp [List.lookup]
  suffices hh : ∀ bd, _root_.PySem.wpAt (model prog w) (A.deeper (ksEnv qual scope s.heap.objs.size fI (.ref cda) cc)) (.func bd (ksEnv qual scope s.heap.objs.size fI (.ref cda) cc)) (execs body (ksEnv qual scope s.heap.objs.size fI (.ref cda) cc)) (fun fl s' => R (.ok (.ret (match fl with | .ret v => v | _ => .none))) s') (fun e s' => wpAny (model prog w) (A.deeper (ksEnv qual scope s.heap.objs.size fI (.ref cda) cc)) (leaving (ksEnv qual scope s.heap.objs.size fI (.ref cda) cc) e) (fun _ s'' => R (.error e) s'') (fun e' s'' => R (.error e') s'') s') { s with heap := h₁, toks := s.toks + 3 } from hh body
  intro bd
  rw [hb]
  refine ks_wpAt_execs_cons ?_
  refine super_at (s := { s with heap := h₁, toks := s.toks + 3 }) (mg := mg) (mb := mb) (m := fun y => ([("self", .ref x), (f, v), (f2, v2)] : List (Str × Value)).reverse.lookup y) (ar := ar) F T X1 (G.keeps kp) hm
    (Bt.keeps kp) hmb hns (by rw [har]; exact ls) (kp _ _ he) neL (X1 _ _ lf) rfl hp (X1 _ _ lcd) rfl hvs hfile (X1 _ _ lcc) rfl FI.super FI.cls (by rw [har]; exact ok) FI.kind FI.top
    (fun s1 n1 k1 Q' hQ' => hev { s with heap := h₁, toks := s.toks + 3 } kp _ s1 n1 k1 Q' hQ') sy.hin sy.hs sy.hst sy.hcall ?_
  intro h2 t1 tk k2 e2
  dsimp only
  refine ks_wpAt_execs_cons (_root_.PySem.wpAt_of_wpAny ?_)
  have n2 := ns_but k2 neL hns
  have X2 : K.In h2 := fun b o z => k2 b o (fun y => hxK o (by rw [← y]; exact z)) (X1 _ _ z)
  refine field_st (env := ksEnv qual scope s.heap.objs.size fI (.ref cda) cc) FI.kind n2 lfv ls hkf ok (set0 SF S X2 e2 ht fun h3 tk3 dx k3 hd nd e3 n3 => ?_) hfd (by decide) (hsw _)
  dsimp only
  have szL : s.heap.objs.size < dx := by
    obtain ⟨o, es, ep, e, _⟩ := n2
    exact Nat.lt_of_lt_of_le (Heap.lt_size e) hd
  have nn3 := ns_but k3 neL n2
  have X3 : K.In h3 := fun b o z => k3 b o (fun y => hxK o (by rw [← y]; exact z)) (X2 _ _ z)
  refine ks_wpAt_execs_cons (_root_.PySem.wpAt_of_wpAny ?_)
  refine field_st (env := ksEnv qual scope s.heap.objs.size fI (.ref cda) cc) FI.kind nn3 lfv2 ls hkf2 ok (set1 (ns := [f]) SF S X3 e3 ht2 n3 (fun y hy => by
    by_cases z : y = f
    · rw [z]; exact List.mem_cons_self
    · exact absurd (if_neg z) hy) (by show 1 ≤ 900; omega) fun h4 tk4 k4 n4 => ?_) hfd2 (by decide) (hsw2 _)
  dsimp only
  refine _root_.PySem.wpAt_of_wpAny (wpAny_execs_nil (hq h4 t1 dx _ (fun b o nb z => ?_) (Nat.le_of_lt szL) nd (k4 _ _ (Ne.symm nd) e3) n4))
  refine k4 b o (fun y => ?_) (k3 b o nb (k2 b o nb (kp b o z)))
  have q := Heap.lt_size z
  rw [y] at q
  exact Nat.lt_asymm szL q
end
end Er

set_option Elab.async false
set_option linter.all false
set_option maxRecDepth 100000
set_option maxHeartbeats 4000000
/-! Er5: an error is made, in the abstract heap. -/
namespace Er
open PySem PySem.Spec PyProof.Rows L2 Dat
section
variable {X : Cx} {pins : List (Addr × Obj)} {σ : L2.St} {H : Hp} {s : Shared}
theorem inv_err {h' : Heap} {x dx C t1 : Addr} {tk : Nat} {fs : List (Str × V)} {mA : Str → Option Value} (I : Inv X pins σ H s) (hx : s.heap.objs.size ≤ x) (hd : s.heap.objs.size ≤ dx) (ne : dx ≠ x) (kp : ∀ b o, s.heap.get? b = some o → h'.get? b = some o)
    (ex : h'.get? x = some (exD C t1 dx)) (hn : h'.Ns1 dx mA) (r : ∀ f, RelO (fs.lookup f) (mA f)) : Inv X pins σ (upd (upd H dx (exd dx fs)) x (exo x C (some dx))) { s with heap := h', toks := tk } := by
  have nx : H x = none := I.hok.fresh hx
  have nd : H dx = none := I.hok.fresh hd
  have fx : ∀ {b : Addr} {o : Obj}, s.heap.get? b = some o → b ≠ x := fun {b o} z => Nat.ne_of_lt (Nat.lt_of_lt_of_le (Heap.lt_size z) hx)
  have fd : ∀ {b : Addr} {o : Obj}, s.heap.get? b = some o → b ≠ dx := fun {b o} z => Nat.ne_of_lt (Nat.lt_of_lt_of_le (Heap.lt_size z) hd)
  refine I.un (t' := tk) { keep := fun b o q _ _ _ => kp b o q, slot := fun b o q _ _ _ => ⟨o.slots, kp b o q⟩, free := fun b o q n _ => by rw [upd_ne (fx q), upd_ne (fd q)]; exact n, there := fun b o q _ => ⟨o, kp b o q⟩
                           tups := fun b xs q => by rw [upd_ne (ne_of_none q nx), upd_ne (ne_of_none q nd)]; exact q
                           frzs := fun b o u q => by rw [upd_ne (ne_of_none q nx), upd_ne (ne_of_none q nd)]; exact q
                           tbls := fun b ps q => ⟨#[], by rw [upd_ne (ne_of_none q nx), upd_ne (ne_of_none q nd), q]; simp⟩ } fun b o q => ?_
  by_cases hb : b = x
  · subst hb
    rw [upd_same] at q
    cases q
    exact exo_ok ex
  · rw [upd_ne hb] at q
    by_cases he : b = dx
    · subst he
      rw [upd_same] at q
      cases q
      exact exd_ok hn r
    · rw [upd_ne he] at q
      exact (I.hok b o q).stay (fun c v _ z => kp c v z) (fun c hc => by rw [upd_ne (ne_of_none hc nx), upd_ne (ne_of_none hc nd)]; exact hc) (fun c xs hc => by rw [upd_ne (ne_of_none hc nx), upd_ne (ne_of_none hc nd)]; exact hc)
variable {C cda cc fI : Addr} {B i newId B2 BN iN : String} {bmB bmC bN : List Value} {qual : Str} {params : Arguments} {body : List Stmt} {scope : Scope} {p0 p1 p2 p3 p4 q1 q2 q3 q4 r1 r2 r3 r4 : Pos} {e : Expr} {f f2 : Str} {v v2 : Value} {y y2 : V} {us : List Value} {kw : List (Str × Value)}
/-- the message's text, whatever stands around -/
def MadeAll (X : Cx) (s : Shared) (qual : Str) (scope : Scope) (fI cda cc : Addr) (e : Expr) (m : Addr → Str → Option Value) : Prop :=
  ∀ (A : Around) (L x : Addr) (s1 : Shared), A.guards = some [] → A.units + 100 < cLine → (∀ b o, s.heap.get? b = some o → s1.heap.get? b = some o) → Made X.prog X.w A e (PySem.W.ksEnv qual scope L fI (.ref cda) cc) s1 (m x)
theorem err_one (I : Inv X pins σ H s) (hr : Room 2 X.A) (hgd : X.A.guards = some []) (FN : ExcBaseFacts BN newId iN bN) (F : IniF B i) (T : ClsE X.K C bmC BN B i newId) (SF : StoreFacts B2 bmB "object.__setattr__" "object") (S : StE X.K C bmB) (FI : FnI X.prog X.K C fI cda cc qual params body scope)
    (hi : PySem.W.findIn X.K (.ref C) "__init__" = some (some (.ref fI))) (tI : PySem.W.typeIn X.K (.ref fI) = some (.type "function"))
    (hb : body = [.Expr (.Call (.Attribute (.Call (.Name "super" p0) [] [] p1) "__init__" p2) [e] [] p3) p4, .Assign [.Attribute (.Name "self" q1) f q2] (.Name f q3) q4])
    (hsy : ∀ L, Syn (PySem.W.ksEnv qual scope L fI (.ref cda) cc) e p0 p1 p2 p3 p4) (hsw : ∀ L, swapsWith (.Name f q3) (some (.Attribute (.Name "self" q1) f q2)) q4.line (PySem.W.ksEnv qual scope L fI (.ref cda) cc) = pure false)
    (hkf : scope.names.lookup f = some .local) (hfd : (f == ("__debug__" : Str)) = false) (hne : ("self" : Str) ≠ f) (ht : PySem.W.takerIn X.K C f = some none) (hm : X.mg "super" = none) (hz : us.length ≤ sizeLine) (rv : RelV y v)
    (hbind : ∀ (s1 : Shared) (x : Addr) (kV doc pm : Value) (an : Option Addr) (ct : Value), X.K.In s1.heap → BindsTo s1 (PySem.W.ksFn "__init__" qual params body scope .none kV doc pm an (.ref cda) ct cc) ⟨.ref x :: us, kw⟩ [("self", .ref x), (f, v)])
    (hev : MadeAll X s qual scope fI cda cc e fun x z => ([("self", .ref x), (f, v)] : List (Str × Value)).reverse.lookup z)
    {Q : Value → Shared → Prop} (h : ∀ x dx s', H x = none → H dx = none → dx ≠ x → Inv X pins σ (upd (upd H dx (exd dx [(f, y)])) x (exo x C (some dx))) s' → Q (.ref x) s') :
    wpAny (model X.prog X.w) X.A (call (.ref C) us kw) Q X.xe s := by
  obtain ⟨mb, bt1, bt2⟩ := I.mod.blt
  obtain ⟨nm, N, qn, bs, bm, hdct, sn, sub, ab, col, dd, k0, k1, k2, k3, k5, oC, hT⟩ := PySem.W.excInit_of I.kIn T.ini
  have TL : Tl BN bm := ⟨(hT _).trans T.tl.own, (hT _).trans T.tl.att, (hT _).trans T.tl.nam⟩
  have hg := I.bk
  have kin := I.kIn
  obtain ⟨hp, g, d, t, os⟩ := s
  have kp : ∀ b o, hp.get? b = some o → ((hp.push (PySem.W.kdv_tup us)).push (PX.excO C hp.objs.size)).get? b = some o := fun b o e => Heap.get?_push_of_some _ (Heap.get?_push_of_some _ e)
  have oE : ((hp.push (PySem.W.kdv_tup us)).push (PX.excO C hp.objs.size)).get? (hp.objs.size + 1) = some (PX.excO C hp.objs.size) := by heap_get
  refine wpAny_call (call_any FN TL oC (PySem.W.looks_findIn kin hi) (fun self => PySem.W.bind_fn kin self tI) hz ?_)
  refine init_one (s := ⟨(hp.push (PySem.W.kdv_tup us)).push (PX.excO C hp.objs.size), g, d, t, os⟩) (x := hp.objs.size + 1) (v := v) (mg := X.mg) (mb := mb) F T SF S FI hb hsy hsw hkf hfd hne ht (kin.keeps kp) ((I.mod.glob.keeps hg).keeps kp) hm ((bt1.keeps hg).keeps kp) ((bt2 "super" (by decide)).trans (by decide +kernel)) ((I.mod.nolimit.keeps hg).keeps kp) ((hr.make C us kw).depth) oE (fun o z => ?_)
    (fun _ _ _ _ _ _ _ _ _ => hbind _ _ _ _ _ _ _ (kin.keeps kp)) (fun s1 k1 => hev _ _ _ s1 hgd ?_ fun b o z => k1 _ _ (kp b o z)) fun h' t1 dx tk k hd ne ex hn => ⟨rfl, ?_⟩
  · have q := Heap.lt_size (kin _ _ z)
    exact absurd (Nat.lt_of_lt_of_le q (Nat.le_succ _)) (Nat.lt_irrefl _)
  · have q := ((hr.make C us kw).deeper (PySem.W.ksEnv qual scope ((hp.push (PySem.W.kdv_tup us)).push (PX.excO C hp.objs.size)).objs.size fI (.ref cda) cc)).un
    have au : ∀ a, a + 16 * 0 + 200 < cLine → a + 100 < cLine := fun a z => by omega
    exact au _ q
  · have hd2 : hp.objs.size ≤ dx := Nat.le_trans (by rw [Heap.size_push, Heap.size_push]; exact Nat.le_succ_of_le (Nat.le_succ _)) hd
    refine h (hp.objs.size + 1) dx _ (I.hok.fresh (Nat.le_succ _)) (I.hok.fresh hd2) ne (inv_err (s := ⟨hp, g, d, t, os⟩) (tk := tk) I (Nat.le_succ _) hd2 ne (fun b o z => k b o (fun e => ?_) (kp b o z)) ex hn fun z => ?_)
    · have q := Heap.lt_size z
      rw [e] at q
      exact absurd (Nat.lt_of_lt_of_le q (Nat.le_succ _)) (Nat.lt_irrefl _)
    · exact relO_put (fs := []) (mA := fun _ => none) rv (fun g => True.intro) z
theorem err_two (I : Inv X pins σ H s) (hr : Room 2 X.A) (hgd : X.A.guards = some []) (FN : ExcBaseFacts BN newId iN bN) (F : IniF B i) (T : ClsE X.K C bmC BN B i newId) (SF : StoreFacts B2 bmB "object.__setattr__" "object") (S : StE X.K C bmB) (FI : FnI X.prog X.K C fI cda cc qual params body scope)
    (hi : PySem.W.findIn X.K (.ref C) "__init__" = some (some (.ref fI))) (tI : PySem.W.typeIn X.K (.ref fI) = some (.type "function"))
    (hb : body = [.Expr (.Call (.Attribute (.Call (.Name "super" p0) [] [] p1) "__init__" p2) [e] [] p3) p4, .Assign [.Attribute (.Name "self" q1) f q2] (.Name f q3) q4, .Assign [.Attribute (.Name "self" r1) f2 r2] (.Name f2 r3) r4])
    (hsy : ∀ L, Syn (PySem.W.ksEnv qual scope L fI (.ref cda) cc) e p0 p1 p2 p3 p4) (hsw : ∀ L, swapsWith (.Name f q3) (some (.Attribute (.Name "self" q1) f q2)) q4.line (PySem.W.ksEnv qual scope L fI (.ref cda) cc) = pure false)
    (hsw2 : ∀ L, swapsWith (.Name f2 r3) (some (.Attribute (.Name "self" r1) f2 r2)) r4.line (PySem.W.ksEnv qual scope L fI (.ref cda) cc) = pure false) (hkf2 : scope.names.lookup f2 = some .local) (hfd2 : (f2 == ("__debug__" : Str)) = false) (hne2 : ("self" : Str) ≠ f2) (ht2 : PySem.W.takerIn X.K C f2 = some none) (hnf : f2 ≠ f) (rv2 : RelV y2 v2)
    (hkf : scope.names.lookup f = some .local) (hfd : (f == ("__debug__" : Str)) = false) (hne : ("self" : Str) ≠ f) (ht : PySem.W.takerIn X.K C f = some none) (hm : X.mg "super" = none) (hz : us.length ≤ sizeLine) (rv : RelV y v)
    (hbind : ∀ (s1 : Shared) (x : Addr) (kV doc pm : Value) (an : Option Addr) (ct : Value), X.K.In s1.heap → BindsTo s1 (PySem.W.ksFn "__init__" qual params body scope .none kV doc pm an (.ref cda) ct cc) ⟨.ref x :: us, kw⟩ [("self", .ref x), (f, v), (f2, v2)])
    (hev : MadeAll X s qual scope fI cda cc e fun x z => ([("self", .ref x), (f, v), (f2, v2)] : List (Str × Value)).reverse.lookup z)
    {Q : Value → Shared → Prop} (h : ∀ x dx s', H x = none → H dx = none → dx ≠ x → Inv X pins σ (upd (upd H dx (exd dx [(f, y), (f2, y2)])) x (exo x C (some dx))) s' → Q (.ref x) s') :
    wpAny (model X.prog X.w) X.A (call (.ref C) us kw) Q X.xe s := by
  obtain ⟨mb, bt1, bt2⟩ := I.mod.blt
  obtain ⟨nm, N, qn, bs, bm, hdct, sn, sub, ab, col, dd, k0, k1, k2, k3, k5, oC, hT⟩ := PySem.W.excInit_of I.kIn T.ini
  have TL : Tl BN bm := ⟨(hT _).trans T.tl.own, (hT _).trans T.tl.att, (hT _).trans T.tl.nam⟩
  have hg := I.bk
  have kin := I.kIn
  obtain ⟨hp, g, d, t, os⟩ := s
  have kp : ∀ b o, hp.get? b = some o → ((hp.push (PySem.W.kdv_tup us)).push (PX.excO C hp.objs.size)).get? b = some o := fun b o e => Heap.get?_push_of_some _ (Heap.get?_push_of_some _ e)
  have oE : ((hp.push (PySem.W.kdv_tup us)).push (PX.excO C hp.objs.size)).get? (hp.objs.size + 1) = some (PX.excO C hp.objs.size) := by heap_get
  refine wpAny_call (call_any FN TL oC (PySem.W.looks_findIn kin hi) (fun self => PySem.W.bind_fn kin self tI) hz ?_)
  refine init_two (s := ⟨(hp.push (PySem.W.kdv_tup us)).push (PX.excO C hp.objs.size), g, d, t, os⟩) (x := hp.objs.size + 1) (v := v) (v2 := v2) (mg := X.mg) (mb := mb) F T SF S FI hb hsy hsw hsw2 hkf2 hfd2 hne2 ht2 hnf hkf hfd hne ht (kin.keeps kp) ((I.mod.glob.keeps hg).keeps kp) hm ((bt1.keeps hg).keeps kp) ((bt2 "super" (by decide)).trans (by decide +kernel)) ((I.mod.nolimit.keeps hg).keeps kp) ((hr.make C us kw).depth) oE (fun o z => ?_)
    (fun _ _ _ _ _ _ _ _ _ => hbind _ _ _ _ _ _ _ (kin.keeps kp)) (fun s1 k1 => hev _ _ _ s1 hgd ?_ fun b o z => k1 _ _ (kp b o z)) fun h' t1 dx tk k hd ne ex hn => ⟨rfl, ?_⟩
  · have q := Heap.lt_size (kin _ _ z)
    exact absurd (Nat.lt_of_lt_of_le q (Nat.le_succ _)) (Nat.lt_irrefl _)
  · have q := ((hr.make C us kw).deeper (PySem.W.ksEnv qual scope ((hp.push (PySem.W.kdv_tup us)).push (PX.excO C hp.objs.size)).objs.size fI (.ref cda) cc)).un
    have au : ∀ a, a + 16 * 0 + 200 < cLine → a + 100 < cLine := fun a z => by omega
    exact au _ q
  · have hd2 : hp.objs.size ≤ dx := Nat.le_trans (by rw [Heap.size_push, Heap.size_push]; exact Nat.le_succ_of_le (Nat.le_succ _)) hd
    refine h (hp.objs.size + 1) dx _ (I.hok.fresh (Nat.le_succ _)) (I.hok.fresh hd2) ne (inv_err (s := ⟨hp, g, d, t, os⟩) (tk := tk) I (Nat.le_succ _) hd2 ne (fun b o z => k b o (fun e => ?_) (kp b o z)) ex hn fun z => ?_)
    · have q := Heap.lt_size z
      rw [e] at q
      exact absurd (Nat.lt_of_lt_of_le q (Nat.le_succ _)) (Nat.lt_irrefl _)
    · have sw : ∀ z, ([(f, y), (f2, y2)] : List (Str × V)).lookup z = ([(f2, y2), (f, y)] : List (Str × V)).lookup z := fun z => by
        rw [lookup_put, lookup_put, lookup_put, lookup_put]
        by_cases h1 : z = f
        · have h2 : z ≠ f2 := fun e => hnf (e.symm.trans h1)
          rw [if_pos h1, if_neg h2, if_pos h1]
        · rw [if_neg h1, if_neg h1]
      rw [sw]
      exact relO_put (fs := [(f, y)]) (mA := fun z => if z = f then some v else none) rv2 (fun g => relO_put (fs := []) (mA := fun _ => none) rv (fun g => True.intro) g) z
end
end Er

set_option Elab.async false
set_option linter.all false
set_option maxRecDepth 100000
set_option maxHeartbeats 4000000
/-! Er6: errors as data: made, read, asked of their classes. -/
namespace Er
open PySem PySem.Spec PyProof.Rows L2 Dat
/-! ### the message's text -/
section
variable {X : Cx} {pins : List (Addr × Obj)} {σ : L2.St} {H : Hp} {s : Shared} {qual : Str} {scope : Scope} {fI cda cc : Addr} {m : Str} {j : Nat} {p p' p2 p3 : Pos} {mm : Addr → Str → Option Value}
theorem made_str : MadeAll X s qual scope fI cda cc (.Constant (.str m) j p) mm := fun A L x s1 _ _ _ E s2 n k Q' hQ' => Calls.Constant_str (hQ' _ _ _ fun _ _ e => e)
/-- a value put into a text -/
theorem fmt_any {A : Around} {E : Value → Shared → Prop} {s2 : Shared} {d : Dt} {y : V} {v : Value} {Q : Value → Shared → Prop} (I : Inv X pins σ H s) (hg : A.guards = some []) (hu : A.units + 100 < cLine) (q : Dq H y d) (rv : RelV y v) (hd : Shown d) (hl : ∀ z, d = .str z → z.length ≤ 16000000) (hi : ∀ i, d = .int i → i.natAbs.log2 < 1920) (hz : (toPy d).shown.length ≤ 16000000)
    (kp : ∀ b o, s.heap.get? b = some o → s2.heap.get? b = some o) (h : ∀ z t h' tk, z.length ≤ 16000000 → (∀ b o, s2.heap.get? b = some o → h'.get? b = some o) → Q (.str z t) { s2 with heap := h', toks := tk }) :
    wpAny (model X.prog X.w) A (formatField v Str.empty) Q E s2 := by
  have obj : ∀ a, v = .ref a → wpAny (model X.prog X.w) A (formatField v Str.empty) Q E s2 := fun a e => by
    obtain ⟨as, rd, hm⟩ := Dq.reads I d _ v q hd.plain rv
    subst e
    have hdp := hd.deep
    exact formatField_of_reads rd hd.shows (fun z => hm (hd.one z)) hg (by omega) kp (fun h' u tk k => h _ _ h' tk hz k) hd.len
  cases d with
  | non => cases q; cases rv; exact wpAny_formatField_none (h _ _ s2.heap _ (by decide) fun _ _ e => e)
  | bl b => cases q; cases rv; exact wpAny_formatField_bool (h _ _ s2.heap _ (by cases b <;> decide) fun _ _ e => e)
  | int i =>
    cases q
    obtain ⟨t, rfl⟩ := rv
    exact wpAny_formatField_int (hi i rfl) (h _ _ s2.heap _ hz fun _ _ e => e)
  | str z =>
    cases q
    obtain ⟨t, rfl⟩ := rv
    exact wpAny_formatField_str (h z _ s2.heap _ (hl z rfl) fun _ _ e => e) (h z _ s2.heap _ (hl z rfl) fun _ _ e => e) (Nat.le_trans (hl z rfl) (by decide))
  | lst _ => cases q; exact obj _ rv
  | tup _ => cases q; exact obj _ rv
  | dic _ _ => cases q; exact obj _ rv
  | obj _ _ _ => cases q; exact obj _ rv
  | err _ _ _ => cases q <;> exact obj _ rv
end
end Er

set_option Elab.async false
set_option linter.all false
set_option maxRecDepth 100000
set_option maxHeartbeats 4000000
/-! Er7: errors as data: made by places or keywords, their fields read, their classes asked. -/
namespace Er
open PySem PySem.Spec PyProof.Rows L2 Dat
/-! ### the promise of a class -/
/-- by places or by keywords a call of the class at C gives an error with these fields -/
def MkE (P : Program) (w : World) (K : PySem.W.Frag) (mg : Str → Option Value) (C : Addr) (ns : List Str) (ok : List Dt → Prop) (sh : List Value → List Value → List (Str × Value) → Prop) : Prop :=
  ∀ (X : Cx), X.prog = P → X.w = w → X.K = K → X.mg = mg → ∀ (pins : List (Addr × Obj)) (σ : L2.St) (H : Hp) (s : Shared), Inv X pins σ H s → Room 2 X.A → X.A.guards = some [] → ∀ (ys : List V) (vs : List Value) (ds : List Dt), Vals ys vs → DqA H ys ds → ok ds →
    ∀ (us : List Value) (kw : List (Str × Value)), sh vs us kw → ∀ Q : Value → Shared → Prop,
      (∀ x dx s' fs, H x = none → H dx = none → dx ≠ x → fs.map (·.1) = ns → fs.map (·.2) = ys → Inv X pins σ (upd (upd H dx (exd dx fs)) x (exo x C (some dx))) s' → Q (.ref x) s') → wpAny (model X.prog X.w) X.A (call (.ref C) us kw) Q X.xe s
/-- the same of a class without fields, made of one text -/
def MkT (P : Program) (w : World) (K : PySem.W.Frag) (mg : Str → Option Value) (C : Addr) : Prop :=
  ∀ (X : Cx), X.prog = P → X.w = w → X.K = K → X.mg = mg → ∀ (pins : List (Addr × Obj)) (σ : L2.St) (H : Hp) (s : Shared), Inv X pins σ H s → ∀ (v : Value), ∀ Q : Value → Shared → Prop, (∀ x s', H x = none → Inv X pins σ (upd H x (exo x C none)) s' → Q (.ref x) s') → wpAny (model X.prog X.w) X.A (call (.ref C) [v]) Q X.xe s
theorem mkt_of {P : Program} {w : World} {K : PySem.W.Frag} {mg : Str → Option Value} {C : Addr} {bmB : List Value} {B newId initId : String} (F : ExcBaseFacts B newId initId bmB) (q : PySem.W.excIn K C bmB newId = true) : MkT P w K mg C := by
  intro X e1 e2 e3 e4 pins σ H s I v Q h
  subst e3
  obtain ⟨bm, N, nm, qn, bs, hdct, sn, sub, ab, col, dd, k0, k1, k2, k3, k5, mN, hC, hN, hni, T⟩ := exc_obj I.kIn q
  obtain ⟨hp, g, d, t, os⟩ := s
  refine wpAny_call_exc_subT F T hC hN hni (fun h' a hm => ?_) (by show 1 ≤ sizeLine; rw [sizeLine_eq]; omega)
  have hn : H a = none := I.hok.gone hm.new
  obtain ⟨t1, ht, _, _⟩ := hm.there
  refine h a _ hn ?_
  exact I.un (t' := t) { keep := fun b o q _ _ _ => hm.keeps b o q, slot := fun b o q _ _ _ => ⟨o.slots, hm.keeps b o q⟩
                         free := fun b o q n _ => by rw [upd_ne (fun z => by rw [z, hm.new] at q; cases q)]; exact n
                         there := fun b o q _ => ⟨o, hm.keeps b o q⟩, tups := fun b xs q => by rw [upd_ne (ne_of_none q hn)]; exact q, frzs := fun b o u q => by rw [upd_ne (ne_of_none q hn)]; exact q
                         tbls := fun b ps q => ⟨#[], by rw [upd_ne (ne_of_none q hn), q]; simp⟩ } fun b o q => by
    by_cases hb : b = a
    · subst hb
      rw [upd_same] at q
      cases q
      exact exo_ok ht
    · rw [upd_ne hb] at q
      exact (I.hok b o q).stay (fun c v _ z => hm.keeps c v z) (fun c hc => by rw [upd_ne (ne_of_none hc hn)]; exact hc) (fun c xs hc => by rw [upd_ne (ne_of_none hc hn)]; exact hc)
/-- one value, by its place or by its name -/
def sh1 (f : Str) : List Value → List Value → List (Str × Value) → Prop := fun vs us kw => ∃ v, vs = [v] ∧ ((us = [v] ∧ kw = []) ∨ (us = [] ∧ kw = [(f, v)]))
/-- two, the names the other way about -/
def sh2 (f f2 : Str) : List Value → List Value → List (Str × Value) → Prop := fun vs us kw => ∃ v v2, vs = [v, v2] ∧ ((us = [v, v2] ∧ kw = []) ∨ (us = [] ∧ kw = [(f2, v2), (f, v)]))
/-! ### at data -/
theorem SInv.err {w : Wd} {B H : Hp} {μ : Mus} {x dx C : Addr} {fs : List (Str × V)} {ds : List Dt} (I : SInv w B H μ) (hx : H x = none) (hd : H dx = none) (ne : dx ≠ x) (q : DqA B (fs.map (·.2)) ds) :
    ∃ B', SInv w B' (upd (upd H dx (exd dx fs)) x (exo x C (some dx))) μ ∧ Ex B B' ∧ Dq B' (.ref x) (.err C (fs.map (·.1)) ds) := by
  have I1 := I.new hd (exd dx fs)
  have hx1 : upd H dx (exd dx fs) x = none := by rw [upd_ne (Ne.symm ne)]; exact hx
  have I2 := I1.new hx1 (exo x C (some dx))
  have e1 := Ex.new (o := exd dx fs) (I.free hd).1
  have e2 := Ex.new (o := exo x C (some dx)) (I1.free hx1).1
  exact ⟨_, I2, e1.trans e2, .err upd_same (by rw [upd_ne ne, upd_same]) ((q.mono e1).mono e2)⟩
theorem SInv.err0 {w : Wd} {B H : Hp} {μ : Mus} {x C : Addr} (I : SInv w B H μ) (hx : H x = none) : ∃ B', SInv w B' (upd H x (exo x C none)) μ ∧ Ex B B' ∧ Dq B' (.ref x) (.err C [] []) :=
  ⟨_, I.new hx _, Ex.new (I.free hx).1, .err0 upd_same⟩
section
variable {X : Cx} {w : Wd} {ρ : List SV} {μ : Mus} {R : SV → Mus → Prop} {e e1 e2 : Expr} {es : List Expr} {x f f2 : Str} {p pos k1 k2 : Pos} {C : Addr} {ns : List Str} {ok : List Dt → Prop}
/-- C(e, ..) by places -/
theorem de_err {sh : List Value → List Value → List (Str × Value) → Prop} (M : MkE X.prog X.w X.K X.mg C ns ok sh) (hsh : ∀ vs, vs.length = ns.length → sh vs vs []) (hr : Room 2 X.A) (hgd : X.A.guards = some []) (hm : X.mg x = some (.ref C)) (hk : PySem.W.keepIn X.K (.ref C) = true)
    (ha : DA X w (e :: es) ρ μ fun rs μ1 => ∃ ds, undat rs = some ds ∧ ds.length = ns.length ∧ ok ds ∧ R (.dat (.err C ns ds)) μ1) (hg : Gl X x := by rfl) (hdb : (x == ("__debug__" : Str)) = false := by decide)
    (he : starEach (e :: es) X.env = (false, eval e X.env) :: starEach es X.env := by rfl) (hpl : (backTo pos (starEach es X.env)).any (·.1) = false := by rfl) : DE X w (.Call (.Name x p) (e :: es) [] pos) ρ μ R := fun σ B H S I Q kk pins s J => by
  refine wpAny_Call_Name_kw (ld_glob J hg hm ?_ hdb)
  refine PySem.W.callWith_K (h₀ := X.base) J.ok.mod.kin hk (thn ((pa_self (X := X) (es := e :: es)).run pos pins s σ H _ J (ha σ B H S I
    (fun vs H1 => ∀ us s1, Inv X pins σ H1 s1 → Vals vs us → wpAny (model X.prog X.w) X.A (call (.ref C) us) (EP X pins σ Q) X.xe s1) ?_)) fun us s1 ⟨vs, H1, J1, rv, q⟩ => ⟨J1.kIn, q us s1 J1 rv⟩) he hpl
  intro vs rs B1 H1 μ1 I1 e1 q1 h1 us s1 J1 rv
  obtain ⟨ds, eu, hl, hok, h1⟩ := h1
  have qd := undat_q q1 eu
  refine M X rfl rfl rfl rfl pins σ H1 s1 J1 hr hgd vs us ds rv (qd.mono I1.bh) hok us [] (hsh us (by rw [← rv.length, qd.length, hl])) _ fun a dx s' fs nx nd ne en qf J2 => ?_
  obtain ⟨B2, I2, ex, qe⟩ := SInv.err (C := C) I1 nx nd ne (fs := fs) (ds := ds) (by rw [qf]; exact qd)
  rw [en] at qe
  exact ⟨.ref a, _, J2, rfl, kk (.ref a) (.dat (.err C ns ds)) B2 _ μ1 I2 (e1.trans ex) qe h1⟩
/-- C(f = e) -/
theorem de_errK1 {ok : List Dt → Prop} (M : MkE X.prog X.w X.K X.mg C [f] ok (sh1 f)) (hr : Room 2 X.A) (hgd : X.A.guards = some []) (hm : X.mg x = some (.ref C)) (hk : PySem.W.keepIn X.K (.ref C) = true)
    (ha : DE X w e ρ μ fun r μ1 => ∃ d, r = .dat d ∧ ok [d] ∧ R (.dat (.err C [f] [d])) μ1) (hg : Gl X x := by rfl) (hdb : (x == ("__debug__" : Str)) = false := by decide)
    (hall : (backToKw pos (keywordEach [⟨some f, e, k1⟩] X.env)).all (·.1.isSome) = true := by rfl) (hks : (backToKw pos (keywordEach [⟨some f, e, k1⟩] X.env)).filterMap (·.1) = [f] := by rfl)
    (hpl : ((backTo pos (starEach [] X.env)).any (·.1) || (backToKw pos (keywordEach [⟨some f, e, k1⟩] X.env)).any (·.1.isNone)) = false := by rfl) : DE X w (.Call (.Name x p) [] [⟨some f, e, k1⟩] pos) ρ μ R := fun σ B H S I Q kk pins s J => by
  refine wpAny_Call_Name_kw (ld_glob J hg hm ?_ hdb)
  refine PySem.W.callWith_KW0 (h₀ := X.base) J.ok.mod.kin hk hall ?_ hpl
  refine thn ((pk_cons (nm := some f) (kpos := k1) pe_self pk_nil).run pos pins s σ H (fun vs H1 => ∀ us s1, Inv X pins σ H1 s1 → Vals vs us → wpAny (model X.prog X.w) X.A (call (.ref C) ([] ++ []) ([f].zip us)) (EP X pins σ Q) X.xe s1) J ?_) fun us s1 ⟨vs, H1, J1, rv, q⟩ => ⟨J1.kIn, ?_⟩
  · refine ha σ B H S I _ fun v r B1 H1 μ1 I1 e1 q1 h1 => ?_
    intro us s1 J1 rv
    obtain ⟨d, rfl, hok, h1⟩ := h1
    obtain ⟨u, rfl, r1⟩ := vals1 rv
    refine M X rfl rfl rfl rfl pins σ H1 s1 J1 hr hgd [v] [u] [d] rv (.one (Dq.mono I1.bh q1)) hok [] [(f, u)] ⟨u, rfl, .inr ⟨rfl, rfl⟩⟩ _ fun a dx s' fs nx nd ne en qf J2 => ?_
    obtain ⟨B2, I2, ex, qe⟩ := SInv.err (C := C) I1 nx nd ne (fs := fs) (ds := [d]) (by rw [qf]; exact .one q1)
    rw [en] at qe
    exact ⟨.ref a, _, J2, rfl, kk (.ref a) (.dat (.err C [f] [d])) B2 _ μ1 I2 (e1.trans ex) qe h1⟩
  · rw [hks]
    exact q us s1 J1 rv
/-- C(f2 = e2, f = e1) -/
theorem de_errK2 {ok : List Dt → Prop} (M : MkE X.prog X.w X.K X.mg C [f, f2] ok (sh2 f f2)) (hr : Room 2 X.A) (hgd : X.A.guards = some []) (hm : X.mg x = some (.ref C)) (hk : PySem.W.keepIn X.K (.ref C) = true)
    (ha : DE X w e2 ρ μ fun r2 μ1 => DE X w e1 ρ μ1 fun r μ2 => ∃ d d2, r = .dat d ∧ r2 = .dat d2 ∧ ok [d, d2] ∧ R (.dat (.err C [f, f2] [d, d2])) μ2) (hg : Gl X x := by rfl) (hdb : (x == ("__debug__" : Str)) = false := by decide)
    (hall : (backToKw pos (keywordEach [⟨some f2, e2, k1⟩, ⟨some f, e1, k2⟩] X.env)).all (·.1.isSome) = true := by rfl) (hks : (backToKw pos (keywordEach [⟨some f2, e2, k1⟩, ⟨some f, e1, k2⟩] X.env)).filterMap (·.1) = [f2, f] := by rfl)
    (hpl : ((backTo pos (starEach [] X.env)).any (·.1) || (backToKw pos (keywordEach [⟨some f2, e2, k1⟩, ⟨some f, e1, k2⟩] X.env)).any (·.1.isNone)) = false := by rfl) : DE X w (.Call (.Name x p) [] [⟨some f2, e2, k1⟩, ⟨some f, e1, k2⟩] pos) ρ μ R := fun σ B H S I Q kk pins s J => by
  refine wpAny_Call_Name_kw (ld_glob J hg hm ?_ hdb)
  refine PySem.W.callWith_KW0 (h₀ := X.base) J.ok.mod.kin hk hall ?_ hpl
  refine thn ((pk_cons (nm := some f2) (kpos := k1) pe_self (pk_cons (nm := some f) (kpos := k2) pe_self pk_nil)).run pos pins s σ H (fun vs H1 => ∀ us s1, Inv X pins σ H1 s1 → Vals vs us → wpAny (model X.prog X.w) X.A (call (.ref C) ([] ++ []) ([f2, f].zip us)) (EP X pins σ Q) X.xe s1) J ?_) fun us s1 ⟨vs, H1, J1, rv, q⟩ => ⟨J1.kIn, ?_⟩
  · refine ha σ B H S I _ fun v2 r2 B0 H0 μ0 I0 e0 q0 h0 => ?_
    refine h0 σ B0 H0 (S.mono e0) I0 _ fun v r B1 H1 μ1 I1 ex1 q1 h1 => ?_
    intro us s1 J1 rv
    obtain ⟨d, d2, rfl, rfl, hok, h1⟩ := h1
    obtain ⟨u2, u, rfl, r2, r1⟩ := vals2 rv
    have q2 : Dq B1 v2 d2 := Dq.mono ex1 q0
    refine M X rfl rfl rfl rfl pins σ H1 s1 J1 hr hgd [v, v2] [u, u2] [d, d2] (.cons r1 (.cons r2 .nil)) (.cons (Dq.mono I1.bh q1) (.one (q2.mono I1.bh))) hok [] [(f2, u2), (f, u)] ⟨u, u2, rfl, .inr ⟨rfl, rfl⟩⟩ _ fun a dx s' fs nx nd ne en qf J2 => ?_
    obtain ⟨B2, I2, ex, qe⟩ := SInv.err (C := C) I1 nx nd ne (fs := fs) (ds := [d, d2]) (by rw [qf]; exact .cons q1 (.one q2))
    rw [en] at qe
    exact ⟨.ref a, _, J2, rfl, kk (.ref a) (.dat (.err C [f, f2] [d, d2])) B2 _ μ1 I2 ((e0.trans ex1).trans ex) qe h1⟩
  · rw [hks]
    exact q us s1 J1 rv
/-- C(e), C without fields -/
theorem de_errT (M : MkT X.prog X.w X.K X.mg C) (hm : X.mg x = some (.ref C)) (hk : PySem.W.keepIn X.K (.ref C) = true) (ha : DE X w e ρ μ fun r μ1 => R (.dat (.err C [] [])) μ1) (hg : Gl X x := by rfl) (hdb : (x == ("__debug__" : Str)) = false := by decide)
    (he : starEach [e] X.env = (false, eval e X.env) :: starEach [] X.env := by rfl) (hpl : (backTo pos (starEach [] X.env)).any (·.1) = false := by rfl) : DE X w (.Call (.Name x p) [e] [] pos) ρ μ R := fun σ B H S I Q kk pins s J => by
  refine wpAny_Call_Name_kw (ld_glob J hg hm ?_ hdb)
  refine PySem.W.callWith_K (h₀ := X.base) J.ok.mod.kin hk (thn ((pa_self (X := X) (es := [e])).run pos pins s σ H
    (fun vs H1 => ∀ us s1, Inv X pins σ H1 s1 → Vals vs us → wpAny (model X.prog X.w) X.A (call (.ref C) us) (EP X pins σ Q) X.xe s1) J ?_) fun us s1 ⟨vs, H1, J1, rv, q⟩ => ⟨J1.kIn, q us s1 J1 rv⟩) he hpl
  refine tL_of (pa_cons pe_self pa_nil he) (ha σ B H S I _ fun v r B1 H1 μ1 I1 e1 q1 h1 => ?_)
  intro us s1 J1 rv
  obtain ⟨u, rfl, r1⟩ := vals1 rv
  refine M X rfl rfl rfl rfl pins σ H1 s1 J1 u _ fun a s' nx J2 => ?_
  obtain ⟨B2, I2, ex, qe⟩ := SInv.err0 (C := C) I1 nx
  exact ⟨.ref a, _, J2, rfl, kk (.ref a) (.dat (.err C [] [])) B2 _ μ1 I2 (e1.trans ex) qe h1⟩
/-! ### read -/
theorem de_efld {o : Expr} (ho : DE X w o ρ μ fun r μ1 => ∃ C ns ds d, r = .dat (.err C ns ds) ∧ XfC X.K C ∧ PySem.W.findIn X.K (.ref C) f = some none ∧ (ns.zip ds).lookup f = some d ∧ R (.dat d) μ1) (hb : attributeBase o f X.env (eval o X.env) = eval o X.env := by rfl) : DE X w (.Attribute o f pos) ρ μ R := fun σ B H S I Q k pins s J => by
  refine attr_of hb (thn ((pe_self (X := X) (e := o)).run pins s σ H (fun v H1 => ∃ a dx C fs v2, v = .ref a ∧ H1 a = some (exo a C (some dx)) ∧ H1 dx = some (exd dx fs) ∧ XfC X.K C ∧ PySem.W.findIn X.K (.ref C) f = some none ∧ fs.lookup f = some v2 ∧ Q v2 H1) J ?_) fun u s1 ⟨v, H1, J1, rx, a, dx, C, fs, v2, ev, ea, ed, T, hno, l, q⟩ => ?_)
  · refine ho σ B H S I _ fun v r B1 H1 μ1 I1 e1 q1 h1 => ?_
    obtain ⟨C, ns, ds, d, rfl, T, hno, l, h1⟩ := h1
    cases q1 with
    | @err a C dx fs ds ha hd hx =>
      obtain ⟨v2, l2, q2⟩ := fs_at hx l
      exact ⟨a, dx, C, fs, v2, rfl, I1.bh _ _ ha, I1.bh _ _ hd, T, hno, l2, k v2 (.dat d) B1 H1 μ1 I1 e1 q2 h1⟩
    | err0 ha => simp at l
  · subst ev
    obtain rfl : u = Value.ref a := rx
    obtain ⟨t1, ho⟩ := exo_at J1.hok ea
    obtain ⟨mA, hns, hr⟩ := exd_at J1.hok ed
    obtain ⟨od, hod, hl⟩ := lookIn_ns hns
    obtain ⟨u, hu, ru⟩ := RelO.some_of (v := v2) (o := mA f) (by rw [← l]; exact hr f)
    have J2 : PySem.W.InstAt s1.heap a (exD C t1 dx) C (some od) := ⟨ho, rfl, rfl, hod⟩
    exact HandSPX.exc_get J1.kIn J2 T.ga T.gg T.exC (PySem.W.findObj_own T.hdC hno rfl (by rw [hl, hu])) (handed_of ru) ⟨v2, H1, J1.tok _, ru, q⟩
/-! ### asked of its class -/
structure IsC (K : PySem.W.Frag) (C : Addr) : Prop where
  cl : (PySem.W.clsIn K C).isSome = true
  ga : PySem.W.findIn K (.ref C) "__getattribute__" = some (some (.builtin "BaseException.__getattribute__"))
  gt : PySem.W.findIn K (.ref C) "__getattr__" = some none
  sub : PySem.W.subIn K (.ref C) (.type "BaseException") = some true
  ac : PySem.W.findIn K (.ref C) "__class__" = some (some (.builtin "object.__class__"))
  sp : PySem.W.specialIn K (.builtin "object.__class__") "__get__" = some (some (.builtin "getset_descriptor.__get__"))
  tk : PySem.W.takesIn K (.builtin "object.__class__") = some true
  mo : PySem.W.mroIn K C (.type "object") = some true
theorem kit_err {pins : List (Addr × Obj)} {σ : L2.St} {H B : Hp} {s : Shared} {v : V} {u : Value} {ns : List Str} {ds : List Dt} (T : IsC X.K C) (J : Inv X pins σ H s) (e : Ex B H) (q : Dq B v (.err C ns ds)) (r : RelV v u) : ∃ P : Heap → Prop, PySem.W.KitX X.K u (.ref C) P ∧ P s.heap ∧ u ≠ .builtin "__main__.__loader__#opaque" := by
  cases q with
  | @err a C dx fs ds ha hd hx =>
    obtain rfl : u = Value.ref a := r
    obtain ⟨t1, ho⟩ := exo_at J.hok (e _ _ ha)
    obtain ⟨mA, hns, hr⟩ := exd_at J.hok (e _ _ hd)
    obtain ⟨od, hod, hl⟩ := lookIn_ns hns
    exact ⟨_, PySem.W.kitx_exc (od := some od) (ox := exD C t1 dx) T.cl T.ga T.gt T.sub T.ac T.sp T.tk T.mo, ⟨ho, rfl, rfl, hod⟩, fun z => nomatch z⟩
  | @err0 a C ha =>
    obtain rfl : u = Value.ref a := r
    obtain ⟨t1, ho⟩ := exo_at J.hok (e _ _ ha)
    exact ⟨_, PySem.W.kitx_exc (od := none) (ox := PX.excO C t1) T.cl T.ga T.gt T.sub T.ac T.sp T.tk T.mo, ⟨ho, rfl, rfl, trivial⟩, fun z => nomatch z⟩
theorem ca_isErr {ns : List Str} {ds : List Dt} {t : SV} {cv : Value} {b : Bool} (T : IsC X.K C) (ht : (∃ n, t = .ty n ∧ cv = .type n) ∨ (∃ c, t = .at c ∧ cv = .ref c)) (hk : PySem.W.kitOne X.K (.ref C) cv = some b) (h : R (.dat (.bl b)) μ) : CaD X w (.builtin "isinstance") [.dat (.err C ns ds), t] μ R := fun B H vs I q Q kk pins s σ us J r => by
  obtain ⟨v1, v2, rfl, q1, q2⟩ := q.two
  obtain ⟨u1, u2, rfl, r1, r2⟩ := vals2 r
  obtain ⟨P, Z, pp, hx⟩ := kit_err T J I.bh q1 r1
  have e2 : u2 = cv := by
    rcases ht with ⟨n, rfl, rfl⟩ | ⟨c, rfl, rfl⟩
    · cases (show v2 = V.ty n from q2); exact r2
    · cases (show v2 = V.ref c from q2); exact r2
  subst e2
  exact PySem.W.kia_one Z J.kIn pp hk hx fun tk => ⟨.bl b, H, J.tok tk, rfl, kk (.bl b) (.dat (.bl b)) B H μ I (Ex.refl B) (Dq.bl _) h⟩
theorem ty_vals : ∀ (ts : List String) (its : List Value), Vals (ts.map V.ty) its → its = ts.map Value.type
  | [], _, rv => by cases rv; rfl
  | n :: ts, _, rv => by
    cases rv with
    | @cons _ u _ us a b => rw [ty_vals ts us b, show u = Value.type n from a]; rfl
theorem ca_isErrT {ns : List Str} {ds : List Dt} {ts : List String} {b : Bool} (T : IsC X.K C) (hk : PySem.W.kitAny X.K (.ref C) (ts.map Value.type) = some b) (h : R (.dat (.bl b)) μ) : CaD X w (.builtin "isinstance") [.dat (.err C ns ds), .tys ts] μ R := fun B H vs I q Q kk pins s σ us J r => by
  obtain ⟨v1, v2, rfl, q1, q2⟩ := q.two
  obtain ⟨u1, u2, rfl, r1, r2⟩ := vals2 r
  obtain ⟨P, Z, pp, hx⟩ := kit_err T J I.bh q1 r1
  obtain ⟨a, rfl, hT⟩ := q2
  obtain rfl : u2 = Value.ref a := r2
  obtain ⟨_, its, rv, o, h1, h2, n, h3⟩ := (show ObjOk X.prog X.w H s.heap a (.tup (ts.map V.ty)) from J.hok a _ (I.bh _ _ hT))
  have ei : its = ts.map Value.type := ty_vals _ _ rv
  subst ei
  obtain ⟨oc, od, oda, osl⟩ := o
  dsimp only at h2 h3
  subst h2 h3
  exact PySem.W.kia_tup Z J.kIn pp h1 hk hx fun tk => ⟨.bl b, H, J.tok tk, rfl, kk (.bl b) (.dat (.bl b)) B H μ I (Ex.refl B) (Dq.bl _) h⟩
/-- (A, B), classes of Python's own -/
theorem de_tys {x1} {n1 n2 : String} (h : DA X w es ρ μ fun rs μ1 => rs = [.ty n1, .ty n2] ∧ R (.tys [n1, n2]) μ1) : DE X w (.Tuple es x1 pos) ρ μ R := fun σ B H S I Q k =>
  tE_of (pe_tup pa_self) (h σ B H S I _ fun vs rs B1 H1 μ1 I1 e1 q1 h1 => by
    obtain ⟨rfl, h1⟩ := h1
    obtain ⟨v1, v2, rfl, a1, a2⟩ := q1.two
    cases (show v1 = V.ty n1 from a1)
    cases (show v2 = V.ty n2 from a2)
    exact ⟨by show 2 ≤ sizeLine; decide, fun p hp => k (.ref p) (.tys [n1, n2]) _ _ μ1 (I1.new hp _) (e1.trans (Ex.new (I1.free hp).1)) ⟨p, rfl, upd_same⟩ h1⟩)
end
end Er

set_option Elab.async false
set_option linter.all false
set_option maxRecDepth 100000
set_option maxHeartbeats 4000000
/-! Er8: the promise of an error's class from what stands in the written part. -/
namespace Er
open PySem PySem.Spec PyProof.Rows L2 Dat
structure FmtOk (d : Dt) : Prop where
  sh : Shown d
  st : ∀ z, d = .str z → z.length ≤ 16000000
  it : ∀ i, d = .int i → i.natAbs.log2 < 1920
  ln : (toPy d).shown.length ≤ 16000000
section
variable {X : Cx} {pins : List (Addr × Obj)} {σ : L2.St} {H : Hp} {s : Shared} {qual : Str} {scope : Scope} {fI cda cc : Addr} {m f : Str} {j : Nat} {p p' p2 p3 : Pos} {mm : Addr → Str → Option Value} {y : V} {v : Value} {d : Dt}
theorem made_fmt (I : Inv X pins σ H s) (q : Dq H y d) (rv : RelV y v) (ok : FmtOk d) (hk : scope.kind = .function) (hkf : scope.names.lookup f = some .local) (hfd : (f == ("__debug__" : Str)) = false) (hml : m.length ≤ 100) (hmm : ∀ x, mm x f = some v) :
    MadeAll X s qual scope fI cda cc (.JoinedStr [.Constant (.str m) j p, .FormattedValue (.Name f p') (-1) none p2] p3) mm := fun A L x s1 hg hu kp E s2 n k Q' hQ' => by
  refine wpAny_JoinedStr ?_
  have e0 : ∀ env, evalEach [.Constant (.str m) j p, .FormattedValue (.Name f p') (-1) none p2] env = [eval (.Constant (.str m) j p) env, eval (.FormattedValue (.Name f p') (-1) none p2) env] := fun env => by first | rfl | simp [evalEach]
  rw [e0]
  have lm : (Str.empty ++ m).length = m.length := by rw [Str.length_append]; exact Nat.zero_add _
  refine Calls.Constant_str ⟨m, _, rfl, by rw [lm]; exact Nat.le_trans hml (by decide), ?_⟩
  refine wpAny_FormattedValue_plain (wpAny_Name (wpAny_loadName_local hk hkf n (hmm x) (fmt_any (s2 := { s2 with toks := s2.toks + 1 }) I hg hu q rv ok.sh ok.st ok.it ok.ln (fun b o z => k _ _ (kp b o z)) fun z t h' tk hz kp2 => ⟨z, t, rfl, ?_, ?_, hQ' _ h' _ kp2⟩)) hfd)
  · rw [Str.length_append, lm]
    exact Nat.le_trans (Nat.add_le_add hml hz) (by decide)
  · rw [Str.length_append, lm]
    exact Nat.le_trans (Nat.add_le_add hml hz) (by decide)
end
section
variable {P : Program} {wd : World} {K : PySem.W.Frag} {mg : Str → Option Value} {C cda cc fI : Addr} {B i newId B2 BN iN : String} {bmB bmC bN : List Value} {qual : Str} {params : Arguments} {body : List Stmt} {scope : Scope} {p0 p1 p2 p3 p4 q1 q2 q3 q4 r1 r2 r3 r4 a1 a2 a3 a4 : Pos} {e : Expr} {f f2 m : Str} {j : Nat}
theorem mke_one (FN : ExcBaseFacts BN newId iN bN) (F : IniF B i) (T : ClsE K C bmC BN B i newId) (SF : StoreFacts B2 bmB "object.__setattr__" "object") (S : StE K C bmB) (FI : FnI P K C fI cda cc qual params body scope)
    (hi : PySem.W.findIn K (.ref C) "__init__" = some (some (.ref fI))) (tI : PySem.W.typeIn K (.ref fI) = some (.type "function")) (hm : mg "super" = none)
    (hb : body = [.Expr (.Call (.Attribute (.Call (.Name "super" p0) [] [] p1) "__init__" p2) [.Constant (.str m) j a1] [] p3) p4, .Assign [.Attribute (.Name "self" q1) f q2] (.Name f q3) q4])
    (hsy : ∀ L, Syn (PySem.W.ksEnv qual scope L fI (.ref cda) cc) (.Constant (.str m) j a1) p0 p1 p2 p3 p4) (hsw : ∀ L, swapsWith (.Name f q3) (some (.Attribute (.Name "self" q1) f q2)) q4.line (PySem.W.ksEnv qual scope L fI (.ref cda) cc) = pure false)
    (hkf : scope.names.lookup f = some .local) (hfd : (f == ("__debug__" : Str)) = false) (hne : ("self" : Str) ≠ f) (ht : PySem.W.takerIn K C f = some none)
    (bP : ∀ (x : Addr) (v kV doc pm : Value) (an : Option Addr) (ct : Value), bindArgs (PySem.W.ksFn "__init__" qual params body scope .none kV doc pm an (.ref cda) ct cc) ⟨[.ref x, v], []⟩ = pure [(("self" : Str), .ref x), (f, v)])
    (bK : ∀ (x : Addr) (v kV doc pm : Value) (an : Option Addr) (ct : Value), bindArgs (PySem.W.ksFn "__init__" qual params body scope .none kV doc pm an (.ref cda) ct cc) ⟨[.ref x], [(f, v)]⟩ = pure [(("self" : Str), .ref x), (f, v)]) : MkE P wd K mg C [f] (fun _ => True) (sh1 f) := by
  intro X g1 g2 g3 g4 pins σ H s I hr hgd ys vs ds rv q ok us kw hsh Q h
  subst g1 g2 g3 g4
  obtain ⟨v, rfl, hu⟩ := hsh
  cases rv with
  | @cons y _ _ _ ry rn =>
    cases rn
    refine err_one (us := us) (kw := kw) (v := v) I hr hgd FN F T SF S FI hi tI hb hsy hsw hkf hfd hne ht hm (by rcases hu with ⟨rfl, _⟩ | ⟨rfl, _⟩ <;> (simp only [List.length_cons, List.length_nil, sizeLine_eq]; omega)) ry (fun s1 x kV doc pm an ct _ => ?_) made_str fun x dx s' nx nd ne J => h x dx s' [(f, y)] nx nd ne rfl rfl J
    rcases hu with ⟨rfl, rfl⟩ | ⟨rfl, rfl⟩
    · exact .of_eq (bP _ _ _ _ _ _ _)
    · exact .of_eq (bK _ _ _ _ _ _ _)
theorem mke_two (FN : ExcBaseFacts BN newId iN bN) (F : IniF B i) (T : ClsE K C bmC BN B i newId) (SF : StoreFacts B2 bmB "object.__setattr__" "object") (S : StE K C bmB) (FI : FnI P K C fI cda cc qual params body scope)
    (hi : PySem.W.findIn K (.ref C) "__init__" = some (some (.ref fI))) (tI : PySem.W.typeIn K (.ref fI) = some (.type "function")) (hm : mg "super" = none)
    (hb : body = [.Expr (.Call (.Attribute (.Call (.Name "super" p0) [] [] p1) "__init__" p2) [.JoinedStr [.Constant (.str m) j a1, .FormattedValue (.Name f a2) (-1) none a3] a4] [] p3) p4, .Assign [.Attribute (.Name "self" q1) f q2] (.Name f q3) q4, .Assign [.Attribute (.Name "self" r1) f2 r2] (.Name f2 r3) r4])
    (hsy : ∀ L, Syn (PySem.W.ksEnv qual scope L fI (.ref cda) cc) (.JoinedStr [.Constant (.str m) j a1, .FormattedValue (.Name f a2) (-1) none a3] a4) p0 p1 p2 p3 p4) (hsw : ∀ L, swapsWith (.Name f q3) (some (.Attribute (.Name "self" q1) f q2)) q4.line (PySem.W.ksEnv qual scope L fI (.ref cda) cc) = pure false)
    (hsw2 : ∀ L, swapsWith (.Name f2 r3) (some (.Attribute (.Name "self" r1) f2 r2)) r4.line (PySem.W.ksEnv qual scope L fI (.ref cda) cc) = pure false) (hkf2 : scope.names.lookup f2 = some .local) (hfd2 : (f2 == ("__debug__" : Str)) = false) (hne2 : ("self" : Str) ≠ f2) (ht2 : PySem.W.takerIn K C f2 = some none) (hnf : f2 ≠ f)
    (hkf : scope.names.lookup f = some .local) (hfd : (f == ("__debug__" : Str)) = false) (hne : ("self" : Str) ≠ f) (ht : PySem.W.takerIn K C f = some none) (hml : m.length ≤ 100)
    (bP : ∀ (x : Addr) (v v2 kV doc pm : Value) (an : Option Addr) (ct : Value), bindArgs (PySem.W.ksFn "__init__" qual params body scope .none kV doc pm an (.ref cda) ct cc) ⟨[.ref x, v, v2], []⟩ = pure [(("self" : Str), .ref x), (f, v), (f2, v2)])
    (bK : ∀ (x : Addr) (v v2 kV doc pm : Value) (an : Option Addr) (ct : Value), bindArgs (PySem.W.ksFn "__init__" qual params body scope .none kV doc pm an (.ref cda) ct cc) ⟨[.ref x], [(f2, v2), (f, v)]⟩ = pure [(("self" : Str), .ref x), (f, v), (f2, v2)]) :
    MkE P wd K mg C [f, f2] (fun ds => ∀ d, ds[0]? = some d → FmtOk d) (sh2 f f2) := by
  intro X g1 g2 g3 g4 pins σ H s I hr hgd ys vs ds rv q ok us kw hsh Q h
  subst g1 g2 g3 g4
  obtain ⟨v, v2, rfl, hu⟩ := hsh
  cases rv with
  | @cons y _ _ _ ry rn =>
    cases rn with
    | @cons y2 _ _ _ ry2 rn =>
      cases rn
      cases q with
      | @cons _ _ d _ qd qr =>
        refine err_two (us := us) (kw := kw) (v := v) (v2 := v2) I hr hgd FN F T SF S FI hi tI hb hsy hsw hsw2 hkf2 hfd2 hne2 ht2 hnf ry2 hkf hfd hne ht hm (by rcases hu with ⟨rfl, _⟩ | ⟨rfl, _⟩ <;> (simp only [List.length_cons, List.length_nil, sizeLine_eq]; omega)) ry (fun s1 x kV doc pm an ct _ => ?_)
          (made_fmt I qd ry (ok d rfl) FI.kind hkf hfd hml fun x => ?_) fun x dx s' nx nd ne J => h x dx s' [(f, y), (f2, y2)] nx nd ne rfl rfl J
        · rcases hu with ⟨rfl, rfl⟩ | ⟨rfl, rfl⟩
          · exact .of_eq (bP _ _ _ _ _ _ _ _)
          · exact .of_eq (bK _ _ _ _ _ _ _ _)
        · have e1 : (f == f2) = false := beq_eq_false_iff_ne.mpr hnf.symm
          simp [List.lookup, e1]
end
end Er

set_option Elab.async false
set_option linter.all false
set_option maxRecDepth 100000
set_option maxHeartbeats 4000000
/-! Er9: comprehensions over pairs; a list times a number; a number in a list. -/
namespace Dat
open PySem PySem.Spec PyProof.Rows L2
section
variable {X : Cx} {w : Wd} {ρ : List SV} {μ : Mus} {R : SV → Mus → Prop} {elt iter : Expr} {ifs : List Expr} {scope : Scope} {pos px py pt : Pos} {x y : Str} {kk : Nat}
def LcTurn2 (X : Cx) (scope : Scope) (elt : Expr) (ifs : List Expr) (ρ : List SV) (j j2 : Nat) (J : Nat → List Dt → Mus → Prop) (n : Nat) (acc : List Dt) (d1 d2 : Dt) (μ : Mus) : Prop :=
  ∀ w' k, DQ (BX X scope k) w' ifs ((ρ.set j (.dat d1)).set j2 (.dat d2)) μ fun b μ3 => (b = true → ∀ kc, DE (BX X scope kc) w' elt ((ρ.set j (.dat d1)).set j2 (.dat d2)) μ3 fun r μ4 => ∃ d', r = .dat d' ∧ J (n + 1) (acc ++ [d']) μ4) ∧ (b = false → J (n + 1) acc μ3)
def LcAsk2 (X : Cx) (scope : Scope) (elt : Expr) (ifs : List Expr) (ρ : List SV) (j j2 : Nat) (R : SV → Mus → Prop) (items : List Dt) (μ1 : Mus) : Prop :=
  items.length ≤ 100000 ∧ ∃ J : Nat → List Dt → Mus → Prop, J 0 [] μ1 ∧ (∀ n acc d μ2, items[n]? = some d → acc.length ≤ n → J n acc μ2 → ∃ d1 d2, d = .tup [d1, d2] ∧ LcTurn2 X scope elt ifs ρ j j2 J n acc d1 d2 μ2) ∧
    ∀ acc μ', J items.length acc μ' → acc.length ≤ items.length → R (.dat (.lst acc)) μ'
abbrev tg2 (x y : Str) (px py pt : Pos) (kk : Nat) : Expr := .Tuple [.Name x px, .Name y py] kk pt
theorem wipe2 {σ : L2.St} {j j2 : Nat} (hj : j ≠ j2) (v1 v2 : Option V) : wipe (((wipe σ [j, j2]).set j v1).set j2 v2) [j, j2] = wipe σ [j, j2] := by
  show (((((σ.set j2 none).set j none).set j v1).set j2 v2).set j2 none).set j none = (σ.set j2 none).set j none
  refine List.ext_getElem? fun i => ?_
  simp only [List.getElem?_set, List.length_set]
  by_cases h1 : j = i <;> by_cases h2 : j2 = i <;> simp [h1, h2]
theorem lc_data2 {j j2 : Nat} (hj : j ≠ j2) {σ : L2.St} {B H : Hp} {Q : VK} (h : DI X w (tg2 x y px py pt kk) iter ρ μ (LcAsk2 X scope elt ifs ρ j j2 R)) (S : Sto B σ ρ) (I : SInv w B H μ) (k : Kt w B R Q) :
    tLc (tI X (tg2 x y px py pt kk) iter) (gTup X.K 2 (gCons (gName j) (gCons (gName j2) gNil))) (gQ X scope ifs) (gE X scope elt) [j, j2] σ H Q := by
  refine h σ B H S I _ fun J items B1 H1 μ1 I1 e1 W h1 D hD => ?_
  obtain ⟨hlen, V, v0, turn, fin⟩ := h1
  obtain ⟨bD, mD, wD⟩ := I1.free hD
  let Y : Nat → Hp → L2.V → Hp → Prop := fun i H x H' => ∃ d, items[i]? = some d ∧ ((H' = H ∧ Dq B1 x d) ∨ ∃ T xs ds, x = .ref T ∧ H T = none ∧ H' = upd H T (.tup xs) ∧ DqA B1 xs ds ∧ d = .tup ds)
  have wk : Walk J items.length (fun H => Ex B1 H) Y := ⟨fun i H hi g => W.goes i H hi g, W.stops, W.yields⟩
  let Pv : Nat → Hp → Prop := fun i H' => ∃ B' μ' acc xs, SInv w B' H' μ' ∧ Ex B1 B' ∧ μ' D = none ∧ B' D = none ∧ H' D = some (.lst xs) ∧ DqA B' xs acc ∧ acc.length ≤ i ∧ V i acc μ'
  refine lc_it wk Pv ⟨B1, μ1, [], [], I1.own bD wD mD _, Ex.refl _, mD, bD, upd_same, .nil, Nat.le_refl _, v0⟩ (fun i H' _ ⟨B', _, _, _, I', g, _⟩ => g.trans I'.bh) ?_ ?_
  · rintro i v H2 H3 hi ⟨B2, μ2, acc, xs, I2, g2, m2, b2, hx, qx, hl, v2⟩ ⟨d, hd, hy⟩
    obtain ⟨d1, d2, ed, t⟩ := turn i acc d μ2 hd hl v2
    have core : ∀ B3, SInv w B3 H3 μ2 → Ex B2 B3 → B3 D = none → H3 D = some (.lst xs) → Dq B3 v d →
        gTup X.K 2 (gCons (gName j) (gCons (gName j2) gNil)) v (wipe σ [j, j2]) H3 fun σ2 H4 => wipe σ2 [j, j2] = wipe σ [j, j2] ∧ gQ X scope ifs σ2 H4 fun b H5 => if b = true then gE X scope elt σ2 H5 fun y H6 => ∃ acc, H6 D = some (.lst acc) ∧ acc.length < sizeLine ∧ Pv (i + 1) (upd H6 D (.lst (acc ++ [y]))) else Pv (i + 1) H5 := by
      intro B3 I3 e3 b3 h3 q3
      subst ed
      cases q3 with
      | @tup a zs _ ha hz =>
      cases hz with
      | @cons x1 _ _ _ qa hz =>
      cases hz with
      | @cons x2 _ _ _ qb hz =>
      cases hz
      refine ⟨a, [x1, x2], rfl, .inl (.inl (I3.bh _ _ ha)), rfl, x1, [x2], rfl, x2, [], rfl, rfl, wipe2 hj _ _, fun kb => ?_⟩
      have J3 : SInv ⟨B3, H3, fun p => μ2 p ≠ none⟩ B3 H3 μ2 := SInv.start I3.bh fun p o z => ⟨(I3.mus p o z).1, (I3.mus p o z).2.1⟩
      have S3 : Sto B3 (((wipe σ [j, j2]).set j (some x1)).set j2 (some x2)) ((ρ.set j (.dat d1)).set j2 (.dat d2)) := by
        have s1 : Sto B3 σ ρ := S.mono (e1.trans (g2.trans e3))
        have s2 : Sto B3 (wipe σ [j, j2]) ((ρ.set j2 .no).set j .no) := (s1.drop j2).drop j
        have s3 := (s2.set j (r := .dat d1) (v := x1) qa).set j2 (r := .dat d2) (v := x2) qb
        have er : ((((ρ.set j2 .no).set j .no).set j (.dat d1)).set j2 (.dat d2)) = (ρ.set j (.dat d1)).set j2 (.dat d2) := by
          refine List.ext_getElem? fun i => ?_
          simp only [List.getElem?_set, List.length_set]
          by_cases h1 : j = i <;> by_cases h2 : j2 = i <;> simp [h1, h2]
        rw [er] at s3
        exact s3
      have keepD : ∀ {B4 H4 μ4}, SInv ⟨B3, H3, fun p => μ2 p ≠ none⟩ B4 H4 μ4 → μ4 D = none ∧ B4 D = none ∧ H4 D = some (.lst xs) := fun {B4 H4 μ4} J4 => by
        refine ⟨?_, J4.out D (by show H3 D ≠ none; rw [h3]; exact nofun) b3, J4.keep D _ (fun z => z m2) h3⟩
        cases z : μ4 D with
        | none => rfl
        | some o =>
          rcases (J4.mus D o z).2.2 with c | c
          · exact absurd m2 c
          · rw [show H3 D = none from c] at h3; cases h3
      have hacc : xs.length < sizeLine := by
        rw [qx.length]
        have : i < items.length := hi
        exact Nat.lt_of_le_of_lt (Nat.le_trans hl (Nat.le_of_lt this)) (Nat.lt_of_le_of_lt hlen (by decide))
      refine (t _ kb) _ B3 H3 S3 J3 _ fun b B4 H4 μ4 J4 e4 h4 => ?_
      cases b with
      | false =>
        rw [if_neg Bool.false_ne_true]
        obtain ⟨k1, k2, k3⟩ := keepD J4
        exact ⟨B4, μ4, acc, xs, I3.back J4, g2.trans (e3.trans e4), k1, k2, k3, (qx.mono e3).mono e4, Nat.le_succ_of_le hl, h4.2 rfl⟩
      | true =>
        rw [if_pos rfl]
        intro kc
        refine h4.1 rfl kc _ B4 H4 (S3.mono e4) J4 _ fun y r B5 H5 μ5 J5 e5 q5 h5 => ?_
        obtain ⟨d', rfl, h5⟩ := h5
        obtain ⟨k1, k2, k3⟩ := keepD J5
        exact ⟨xs, k3, hacc, B5, μ5, acc ++ [d'], xs ++ [y], (I3.back J5).own k2 wD k1 _, g2.trans (e3.trans (e4.trans e5)), k1, k2, upd_same, (((qx.mono e3).mono e4).mono e5).snoc q5, by rw [List.length_append]; exact Nat.succ_le_succ hl, h5⟩
    rcases hy with ⟨rfl, q⟩ | ⟨T, ys, ds, rfl, hT, rfl, q, rfl⟩
    · exact core B2 I2 (Ex.refl _) b2 hx (q.mono g2)
    · have hb := (I2.free hT).1
      have ne : D ≠ T := fun z => by rw [z, hT] at hx; cases hx
      exact core (upd B2 T (.tup ys)) (I2.new hT _) (Ex.new hb) (by rw [upd_ne ne]; exact b2) (by rw [upd_ne ne]; exact hx) (.tup upd_same ((q.mono g2).mono (Ex.new hb)))
  · rintro H' ⟨B', μ', acc, xs, I', g', m', b', hx, qx, hl, v'⟩
    exact k (.ref D) (.dat (.lst acc)) (upd B' D (.lst xs)) H' μ' (I'.told b' wD m' hx) (e1.trans (g'.trans (Ex.new b'))) (Dq.lst upd_same (qx.mono (Ex.new b'))) (fin acc μ' v' hl)
theorem de_lc2 (j j2 : Nat) (hj : j ≠ j2) (hc : X.calm = true) (hN : X.N.Nodup) (ok : BlkOk X.N X.env.scope scope [(x, j), (y, j2)]) (h : DI X w (tg2 x y px py pt kk) iter ρ μ (LcAsk2 X scope elt ifs ρ j j2 R)) (hi : X.N[j]? = some x := by rfl) (hi2 : X.N[j2]? = some y := by rfl)
    (hx : ∀ k, (BX X scope k).env.scope.names.lookup x = some .local := by intro _; rfl) (hy : ∀ k, (BX X scope k).env.scope.names.lookup y = some .local := by intro _; rfl)
    (hs : ∀ z, foldedSetIterable iter X.env z = pure z := by intro _; rfl) : DE X w (.ListComp elt [⟨tg2 x y px py pt kk, iter, ifs, 0⟩] scope pos) ρ μ R := fun σ B H S I Q k =>
  tE_of (pe_lc (own := [(x, j), (y, j2)]) (g := gTup X.K 2 (gCons (gName j) (gCons (gName j2) gNil))) (tt := gQ X scope ifs) (te := gE X scope elt) hc hN pi_self ok
    (fun s H C cl fp => pg_tup (X := BX X scope (s, H, C, cl, fp)) (n := 2) hc (pgs_cons (pg_name (X := BX X scope (s, H, C, cl, fp)) hN hi (.inl (hx (s, H, C, cl, fp))) (.inr (hx (s, H, C, cl, fp)))) (pgs_cons (pg_name (X := BX X scope (s, H, C, cl, fp)) hN hi2 (.inl (hy (s, H, C, cl, fp))) (.inr (hy (s, H, C, cl, fp)))) pgs_nil)))
    (fun s H C cl fp => ⟨fun pins s1 σ1 H1 Q1 I1 q => q (s, H, C, cl, fp) pins s1 I1⟩) (fun s H C cl fp => ⟨fun pins s1 σ1 H1 Q1 I1 q => q (s, H, C, cl, fp) pins s1 I1⟩) hs) (lc_data2 hj h S I k)
theorem lc2_map (j j2 : Nat) (items : List (Dt × Dt)) (f : Dt × Dt → Dt) (hl : items.length ≤ 100000) (h : ∀ p, p ∈ items → ∀ w' k, DE (BX X scope k) w' elt ((ρ.set j (.dat p.1)).set j2 (.dat p.2)) μ fun r μ' => r = .dat (f p) ∧ μ' = μ) (hR : R (.dat (.lst (items.map f))) μ) :
    LcAsk2 X scope elt [] ρ j j2 R (items.map fun p => .tup [p.1, p.2]) μ := by
  refine ⟨by rw [List.length_map]; exact hl, fun n acc μ' => μ' = μ ∧ acc = (items.take n).map f, ⟨rfl, by simp⟩, ?_, ?_⟩
  · rintro n acc d μ2 hd _ ⟨rfl, rfl⟩
    rw [List.getElem?_map] at hd
    cases e : items[n]? with
    | none => rw [e] at hd; cases hd
    | some p =>
      rw [e] at hd
      cases hd
      refine ⟨p.1, p.2, rfl, fun w' k => dq_nil ⟨fun _ kc => (h p (List.mem_of_getElem? e) w' kc).imp fun r μ' ⟨h1, h2⟩ => ⟨f p, h1, h2, ?_⟩, nofun⟩⟩
      rw [List.take_add_one, e, List.map_append]
      rfl
  · rintro acc μ' ⟨rfl, rfl⟩ _
    rw [List.length_map, List.take_length]
    exact hR
/-- [..] * n -/
theorem op_mulL {r : SV} {xs : List Dt} {n : Nat} (h1 : LsQ r μ xs) (hn : n ≤ 1000) (hl : xs.length ≤ 1000) (h : R (.dat (.lst (List.replicate n xs).flatten)) μ) : OpD X w (binaryOp .Mult) r (.dat (.int (n : Int))) μ R := fun B H v u I q1 q2 Q k => by
  cases q2
  obtain ⟨a, as, rfl, ha, hx⟩ := ls_get I q1 h1
  refine sO_of op_rep ⟨a, (n : Int), as, rfl, rfl, ha, by omega, by omega, ?_, fun p hp => ?_⟩
  · rw [hx.length, Int.toNat_natCast]
    exact Nat.le_trans (Nat.mul_le_mul hl hn) (by decide)
  · rw [Int.toNat_natCast]
    have q : ∀ n : Nat, DqA B (List.replicate n as).flatten (List.replicate n xs).flatten := fun n => by
      induction n with
      | zero => exact .nil
      | succ n ih => rw [List.replicate_succ, List.replicate_succ, List.flatten_cons, List.flatten_cons]; exact hx.append ih
    exact k (.ref p) (.dat (.lst _)) _ _ μ (I.new hp _) (Ex.new (I.free hp).1) (Dq.lst upd_same ((q n).mono (Ex.new (I.free hp).1))) h
theorem inV_ints : ∀ (x : Int) (zs : List Int), inV (.int x) (zs.map V.int) = decide (x ∈ zs)
  | x, [] => rfl
  | x, z :: zs => by
    have ih := inV_ints x zs
    unfold inV at ih ⊢
    rw [List.map_cons, List.any_cons, ih]
    show ((z == x) || _) = _
    by_cases e : z = x
    · subst e; simp
    · have e' : ¬ x = z := fun q => e q.symm
      have b : (z == x) = false := by simpa using e
      rw [b]; simp [e']
theorem flat_ints : ∀ zs : List Int, (zs.map V.int).all flatV = true
  | [] => rfl
  | z :: zs => by rw [List.map_cons, List.all_cons, flat_ints zs]; rfl
theorem op_inInt {r : SV} {i : Int} {zs : List Int} (h1 : LsQ r μ (zs.map Dt.int)) (h : R (.dat (.bl (decide (i ∈ zs)))) μ) : OpD X w (compareOp .In) (.dat (.int i)) r μ R := fun B H v u I q1 q2 Q k => by
  cases q1
  obtain ⟨a, as, rfl, ha, hx⟩ := ls_get I q2 h1
  have e := DqA.ints hx
  subst e
  refine sO_of op_in_seq ⟨a, _, rfl, .inl (.inl (.inl ha)), rfl, flat_ints zs, ?_⟩
  rw [if_neg Bool.false_ne_true, inV_ints]
  exact k (.bl _) (.dat (.bl _)) B H μ I (Ex.refl B) (Dq.bl _) h
end
end Dat

set_option Elab.async false
set_option linter.all false
set_option maxRecDepth 100000
set_option maxHeartbeats 4000000
/-! Er10: repr of lists that hold dicts: where no dict stands at the place of the modules' own one. -/
namespace PySem
section
variable {prog : Program} {w : World} {h₀ : Heap}
theorem deep_all {n m : Nat} {b1 b2 : List Addr} (p : ReadAtMost h₀ n b1) (q : ReadAtMost h₀ m b2) : ReadAtMost h₀ (max n m) (b1 ++ b2) := (p.mono (Nat.le_max_left _ _)).append (q.mono (Nat.le_max_right _ _))
mutual
/-- one value -/
theorem freeK (nd : ∀ o, h₀.get? sysModules = some o → o.cls ≠ .type "dict") : ∀ {v : Value} {d : PyData} {as : List Addr}, Reads h₀ v d as → d.showable = true → d.shown.length ≤ sizeLine → ∃ bs, ReadAtMost h₀ d.depth bs ∧ ReprK prog w bs h₀ d.depth v d.shown
  | _, _, _, .none, sh, sz => ReprK.of_reads .none sh (fun z => nomatch z) sz
  | _, _, _, .bool b, sh, sz => ReprK.of_reads (.bool b) sh (fun z => nomatch z) sz
  | _, _, _, .int i t, sh, sz => ReprK.of_reads (.int i t) sh (fun z => nomatch z) sz
  | _, _, _, .str x t, sh, sz => ReprK.of_reads (.str x t) sh (fun z => nomatch z) sz
  | _, _, _, .list (a := a) (vs := vs) (xs := xs) g1 g2 g3 g4, sh, sz => by
    have sz2 : (listText (PyData.shownAll xs)).length ≤ sizeLine := by rw [PyData.shown] at sz; exact sz
    have sh2 : PyData.showableAll xs = true := by rw [PyData.showable] at sh; exact sh
    have rd : Reads h₀ (.ref a) (.list xs) _ := .list g1 g2 g3 g4
    obtain ⟨bs, p, q⟩ := freeA nd g4 sh2 fun t m => Nat.le_trans (listText_mem_le m) sz2
    have lt : PyData.depthAll xs < (PyData.list xs).depth := by rw [PyData.depth]; omega
    have out : a ∉ bs := not_mem_of_deeper rd lt p
    refine ⟨a :: bs, .cons rd (Nat.le_of_lt lt) p, ?_⟩
    rw [PyData.depth, PyData.shown]
    obtain ⟨l⟩ := vs
    match l, g4, q with
    | [], g4, _ => cases (show ReadsAll h₀ [] xs _ from g4); rw [PyData.shownAll, listText_nil]; exact .listEmpty g1 g2 g3
    | y :: l, _, q => exact .list g1 g2 g3 out (by simpa using q.length_eq) fun i z e => q.item i z (by simpa using e)
  | _, _, _, .tuple (a := a) (xs := xs) g1 g2 g3 g4, sh, sz => by
    have sz2 : (tupleText (PyData.shownAll xs)).length ≤ sizeLine := by rw [PyData.shown] at sz; exact sz
    have sh2 : PyData.showableAll xs = true := by rw [PyData.showable] at sh; exact sh
    have rd : Reads h₀ (.ref a) (.tuple xs) _ := .tuple g1 g2 g3 g4
    obtain ⟨bs, p, q⟩ := freeA nd g4 sh2 fun t m => Nat.le_trans (tupleText_mem_le m) sz2
    have lt : PyData.depthAll xs < (PyData.tuple xs).depth := by rw [PyData.depth]; omega
    refine ⟨a :: bs, .cons rd (Nat.le_of_lt lt) p, ?_⟩
    rw [PyData.depth, PyData.shown]
    exact .tuple g1 g2 g3 (not_mem_of_deeper rd lt p) q
  | _, _, _, .dict (a := a) (es := es) (kvs := kvs) g1 g2 g3 g4 g5, sh, sz => by
    have sz2 : (dictText (PyData.shownKv kvs)).length ≤ sizeLine := by rw [PyData.shown] at sz; exact sz
    obtain ⟨sa, sb⟩ := PyData.showableKv_split kvs (by rw [PyData.showable] at sh; exact sh)
    have rd : Reads h₀ (.ref a) (.dict kvs) _ := .dict g1 g2 g3 g4 g5
    have pair : ∀ p ∈ PyData.shownKv kvs, p.length ≤ sizeLine := fun p m => Nat.le_trans (dictText_mem_le m) sz2
    obtain ⟨ba, pa, qa⟩ := freeA nd g4 sa fun t m => by obtain ⟨p, m2, l2⟩ := PyData.shownKv_key_le kvs t m; exact Nat.le_trans l2 (pair p m2)
    obtain ⟨bb, pb, qb⟩ := freeA nd g5 sb fun t m => by obtain ⟨p, m2, l2⟩ := PyData.shownKv_val_le kvs t m; exact Nat.le_trans l2 (pair p m2)
    have both : ReadAtMost h₀ (PyData.depthKv kvs) (ba ++ bb) := (pa.mono (PyData.depthAll_keys_le kvs)).append (pb.mono (PyData.depthAll_vals_le kvs))
    have lt : PyData.depthKv kvs < (PyData.dict kvs).depth := by rw [PyData.depth]; omega
    have apart : (a == sysModules) = false := beq_eq_false_iff_ne.mpr fun e => nd _ (by rw [← e]; exact g1) g2
    refine ⟨a :: (ba ++ bb), .cons rd (Nat.le_of_lt lt) both, ?_⟩
    rw [PyData.depth, PyData.shown, PyData.shownKv_eq]
    refine .dict g1 g2 g3 apart (not_mem_of_deeper rd lt both) (ReprEntriesK.of_two es.toList _ _ ?_ ?_)
    · exact qa.more_le (fun b m => List.mem_append_left _ m) (PyData.depthAll_keys_le kvs)
    · exact qb.more_le (fun b m => List.mem_append_right _ m) (PyData.depthAll_vals_le kvs)
/-- all of a row -/
theorem freeA (nd : ∀ o, h₀.get? sysModules = some o → o.cls ≠ .type "dict") : ∀ {vs : List Value} {ds : List PyData} {as : List Addr}, ReadsAll h₀ vs ds as → PyData.showableAll ds = true → (∀ t ∈ PyData.shownAll ds, t.length ≤ sizeLine) → ∃ bs, ReadAtMost h₀ (PyData.depthAll ds) bs ∧ ReprAllK prog w bs h₀ (PyData.depthAll ds) vs (PyData.shownAll ds)
  | _, _, _, .nil, _, _ => ReprAllK.of_readsAll .nil rfl (fun z => nomatch z) fun t z => nomatch z
  | _, _, _, .cons (d := d) (ds := ds) r rs, sh, sz => by
    have sh2 : d.showable = true ∧ PyData.showableAll ds = true := by rw [PyData.showableAll, Bool.and_eq_true] at sh; exact sh
    rw [PyData.shownAll] at sz
    obtain ⟨b1, p1, q1⟩ := freeK nd r sh2.1 (sz _ (.head _))
    obtain ⟨b2, p2, q2⟩ := freeA nd rs sh2.2 fun t m => sz t (.tail _ m)
    refine ⟨b1 ++ b2, by rw [PyData.depthAll]; exact deep_all p1 p2, ?_⟩
    rw [PyData.depthAll, PyData.shownAll]
    exact .cons ((q1.more fun b m => List.mem_append_left _ m).level_le (Nat.le_max_left _ _)) (q2.more_le (fun b m => List.mem_append_right _ m) (Nat.le_max_right _ _))
end
/-- repr of a list, whatever it holds -/
theorem repr_free {A : Around} {E : Value → Shared → Prop} {s : Shared} {Q : Value → Shared → Prop} {a : Addr} {xs : List PyData} {as : List Addr} (nd : ∀ o, s.heap.get? sysModules = some o → o.cls ≠ .type "dict") (r : Reads s.heap (.ref a) (.list xs) as) (sh : (PyData.list xs).showable = true) (hg : A.guards = some []) (hu : A.units + ((PyData.list xs).depth + 1) < cLine)
    (hQ : ∀ h' u tk, (∀ b o, s.heap.get? b = some o → h'.get? b = some o) → Q (.str (PyData.list xs).shown u) { s with heap := h', toks := tk }) (sz : (PyData.list xs).shown.length ≤ sizeLine) : wpAny (model prog w) A (call (.builtin "repr") [.ref a]) Q E s := by
  cases r with
  | @list _ o vs n _ as g1 g2 g3 g4 =>
    have rd : Reads s.heap (.ref a) (.list xs) (a :: as) := .list g1 g2 g3 g4
    have sz2 : (listText (PyData.shownAll xs)).length ≤ sizeLine := by rw [PyData.shown] at sz; exact sz
    have sh2 : PyData.showableAll xs = true := by rw [PyData.showable] at sh; exact sh
    obtain ⟨bs, p, q⟩ := freeA (prog := prog) (w := w) nd g4 sh2 fun t m => Nat.le_trans (listText_mem_le m) sz2
    have lt : PyData.depthAll xs < (PyData.list xs).depth := by rw [PyData.depth]; omega
    have out : a ∉ bs := not_mem_of_deeper rd lt p
    refine call_repr_slot (by omega) ⟨o, g1, g2⟩ F.slot_list_repr.toG ?_
    have hu2 : A.in1.units + (PyData.list xs).depth < cLine := by show A.units + 1 + _ < _; omega
    rw [PyData.depth] at hu2
    rw [PyData.shown] at hQ
    obtain ⟨l⟩ := vs
    match l, g3, g4, q with
    | [], g3, g4, _ =>
      cases (show ReadsAll s.heap [] xs _ from g4)
      rw [PyData.shownAll, listText_nil] at hQ
      exact call_list_repr_empty ⟨o, g1, g2⟩ g1 g3 ⟨_, _, rfl, hQ s.heap _ _ fun _ _ e => e⟩
    | y :: l, g3, _, q =>
      exact call_list_reprK g1 g2 g3 out (by simpa using q.length_eq) (fun i z e => q.item i z (by simpa using e)) hg (fun b _ => Clear.nil b) hu2 (fun _ _ e => e) (fun h' u tk k => ⟨_, _, rfl, hQ h' u tk k⟩) sz2
end
end PySem

set_option Elab.async false
set_option linter.all false
set_option maxRecDepth 100000
set_option maxHeartbeats 4000000
/-! Er11: repr of lists of data, dicts among it. -/
namespace Dat
open PySem PySem.Spec PyProof.Rows L2
section
variable {X : Cx} {pins : List (Addr × Obj)} {σ : L2.St} {H : Hp} {s : Shared}
mutual
theorem Dq.reads3 (I : Inv X pins σ H s) (md : ∃ o, s.heap.get? sysModules = some o ∧ o.cls = .type "dict") : ∀ (d : Dt) (v : V) (u : Value), Dq H v d → plain d = true → RelV v u → ∃ as, Reads s.heap u (toPy d) as ∧ sysModules ∉ as
  | .non, _, _, h, _, r => by cases h; cases r; exact ⟨[], by rw [toPy]; exact .none, List.not_mem_nil⟩
  | .bl b, _, _, h, _, r => by cases h; cases r; exact ⟨[], by rw [toPy]; exact .bool b, List.not_mem_nil⟩
  | .int i, _, _, h, _, r => by cases h; obtain ⟨t, rfl⟩ := r; exact ⟨[], by rw [toPy]; exact .int i t, List.not_mem_nil⟩
  | .str x, _, _, h, _, r => by cases h; obtain ⟨t, rfl⟩ := r; exact ⟨[], by rw [toPy]; exact .str x t, List.not_mem_nil⟩
  | .lst ds, _, _, h, hp, r => by
    cases h with
    | lst hs ha =>
      cases r
      obtain ⟨_, its, n, rv, ho⟩ := (show ObjOk X.prog X.w H s.heap _ (.lst _) from I.hok _ _ hs)
      obtain ⟨as, hr, hm⟩ := Dq.reads3A I md ds _ its ha (by simpa [plain] using hp) rv
      refine ⟨_, by rw [toPy]; exact .list ho rfl rfl hr, fun z => ?_⟩
      rcases List.mem_cons.mp z with e | e
      · obtain ⟨o, e1, e2⟩ := md
        rw [e, ho] at e1
        cases e1
        exact absurd (show Value.type "list" = Value.type "dict" from e2) (by decide)
      · exact hm e
  | .tup ds, _, _, h, hp, r => by
    cases h with
    | tup hs ha =>
      cases r
      obtain ⟨_, its, rv, o, ho, hc, n, hd⟩ := (show ObjOk X.prog X.w H s.heap _ (.tup _) from I.hok _ _ hs)
      obtain ⟨as, hr, hm⟩ := Dq.reads3A I md ds _ its ha (by simpa [plain] using hp) rv
      exact ⟨as, by rw [toPy]; exact .tuple ho hc hd hr, hm⟩
  | .dic ks ds, _, _, h, hp, r => by
    cases h with
    | @dic a kvs _ hs ha =>
      cases r
      obtain ⟨_, hsm, vs, rv, o, es, ep, ho, hx, hd, _, pr, _⟩ := (show ObjOk X.prog X.w H s.heap _ (.dK _) from I.hok _ _ hs)
      obtain ⟨h1, h2⟩ := dictParts (h := s.heap) pr rv
      obtain ⟨as, hr, hm⟩ := Dq.reads3A I md ds _ _ ha (by simpa [plain] using hp) h2
      have hl : (toPyA (kvs.map fun kv => keyD kv.1)).length = (toPyA ds).length := by rw [toPyA_len, toPyA_len, List.length_map, ← ha.length, List.length_map]
      obtain ⟨z1, z2⟩ := zip_maps hl
      have z : a ≠ sysModules := by simpa using hsm
      refine ⟨a :: [] ++ as, ?_, ?_⟩
      · rw [toPy]
        exact .dict ho hx.1 hd (by rw [z1]; exact h1) (by rw [z2]; exact hr)
      · intro q
        rcases List.mem_cons.mp q with e | e
        · exact z e.symm
        · exact hm e
  | .obj _ _ _, _, _, _, hp, _ => by simp [plain] at hp
  | .err _ _ _, _, _, _, hp, _ => by simp [plain] at hp
theorem Dq.reads3A (I : Inv X pins σ H s) (md : ∃ o, s.heap.get? sysModules = some o ∧ o.cls = .type "dict") : ∀ (ds : List Dt) (vs : List V) (us : List Value), DqA H vs ds → plainA ds = true → Vals vs us → ∃ as, ReadsAll s.heap us (toPyA ds) as ∧ sysModules ∉ as
  | [], _, _, h, _, r => by cases h; cases r; exact ⟨[], by rw [toPyA]; exact .nil, List.not_mem_nil⟩
  | d :: ds, _, _, h, hp, r => by
    cases h with
    | cons h1 h2 =>
      cases r with
      | cons r1 r2 =>
        have hp' : plain d = true ∧ plainA ds = true := by simpa [plainA] using hp
        obtain ⟨as, q1, m1⟩ := Dq.reads3 I md d _ _ h1 hp'.1 r1
        obtain ⟨bs, q2, m2⟩ := Dq.reads3A I md ds _ _ h2 hp'.2 r2
        refine ⟨as ++ bs, by rw [toPyA]; exact .cons q1 q2, fun q => ?_⟩
        rcases List.mem_append.mp q with e | e
        · exact m1 e
        · exact m2 e
end

structure ShownL (d : Dt) : Prop where
  plain : plain d = true
  shows : (toPy d).showable = true
  len : (toPy d).shown.length ≤ sizeLine
  deep : (toPy d).depth ≤ 60
theorem ca_reprL {w : Wd} {μ : Mus} {R : SV → Mus → Prop} {r : SV} {ds : List Dt} {k : Nat} (hr : Room k X.A) (hg : X.A.guards = some []) (h1 : LsQ r μ ds) (hd : ShownL (.lst ds)) (h : R (.dat (.str (toPy (.lst ds)).shown)) μ) : CaD X w (.builtin "repr") [r] μ R := fun B H vs I q Q kk pins s σ us J rv => by
  obtain ⟨v, rfl, q1⟩ := q.one
  obtain ⟨u, rfl, r1⟩ := vals1 rv
  obtain ⟨a, xs, rfl, ha, hx⟩ := ls_get I q1 h1
  have eu : u = Value.ref a := r1
  subst eu
  have fin : ∀ {s' : Shared} {t : Tok}, Inv X pins σ H s' → EP X pins σ Q (.str (toPy (.lst ds)).shown t) s' := fun {s' t} J' => ⟨.str _, H, J', ⟨t, rfl⟩, kk (.str _) (.dat (.str _)) B H μ I (Ex.refl B) (Dq.str _) h⟩
  have hu := hr.un
  have hdp := hd.deep
  have qq : Dq H (.ref a) (.lst ds) := .lst ha (hx.mono I.bh)
  by_cases md : ∃ o, s.heap.get? sysModules = some o ∧ o.cls = .type "dict"
  · obtain ⟨as, rd, hm⟩ := Dq.reads3 J md _ _ _ qq hd.plain r1
    exact repr_of_reads' rd hd.shows (fun _ => hm) hg (by omega) (fun _ _ e => e) (fun h' t tk keep => fin (J.kept (t' := tk) keep)) hd.len
  · obtain ⟨as, rd, _⟩ := Dq.reads J _ _ _ qq hd.plain r1
    have sh := hd.shows
    have sz := hd.len
    rw [toPy] at rd hdp sh sz fin
    exact repr_free (fun o e c => md ⟨o, e, c⟩) rd sh hg (by omega) (fun h' t tk keep => fin (J.kept (t' := tk) keep)) sz
theorem fine_shownL {S M n : Nat} {d : Dt} (h : fine S M n d) (hl : fineL S M n ≤ 16777216) (hn : n ≤ 60) : ShownL d := by
  obtain ⟨h1, h2, h3⟩ := fine_rest n d h
  exact ⟨h3, h1, Nat.le_trans (fine_len n d h) (Nat.le_trans hl (by decide)), Nat.le_trans h2 hn⟩
end
end Dat

set_option Elab.async false
set_option linter.all false
set_option maxRecDepth 100000
set_option maxHeartbeats 4000000
namespace K19
open PySem PySem.Spec PyProof.Rows L2 Dat
def top (i : Nat) : Stmt := PySem.Challenge.pw_onefacers_k19_errors_made.main.body.getD i (.Pass ⟨0, 0, 0, 0⟩)
def ok1 (p : Dt → Prop) : List Dt → Prop := fun ds => ∃ d, ds = [d] ∧ p d
def re1 (f : Dt → Dt) : List Dt → Dt → Prop := fun ds r => ∃ d, ds = [d] ∧ r = f d
def Fi (d : Dt) : Prop := ∃ n, fine 64 30 n d
theorem Fi.notObj {d : Dt} (h : Fi d) : isObj' d = false := by
  obtain ⟨n, h⟩ := h
  cases d with
  | obj _ _ _ => cases n <;> exact h.elim
  | err _ _ _ => cases n <;> exact h.elim
  | _ => rfl
theorem Fi.str {x : Str} (h : Fi (.str x)) : x.length ≤ 64 ∧ ∀ c ∈ x.cps.toList, c < 256 := by
  obtain ⟨n, h⟩ := h
  cases n <;> exact h
theorem Fi.tup {xs : List Dt} (h : Fi (.tup xs)) : xs.length ≤ 30 ∧ ∀ d, d ∈ xs → Fi d := by
  obtain ⟨n, h⟩ := h
  cases n with
  | zero => exact h.elim
  | succ n => exact ⟨h.1, fun d hd => ⟨n, h.2 d hd⟩⟩
section
variable {X : Cx} {w : Wd} {ρ : List SV} {μ : Mus} {R : SV → Mus → Prop} {e e2 e3 : Expr} {es : List Expr} {x : Str} {p pos : Pos} {j k : Nat}
theorem de_p1 {q : Dt → Prop} {f : Dt → Dt} (O : Own X.prog X.w X.K X.mg X.base x k (PSp (ok1 q) (re1 f))) (hr : Room j X.A) (hkj : k ≤ j) (hgd : X.A.guards = some [])
    (ha : DE X w e ρ μ fun r μ1 => ∃ d, r = .dat d ∧ q d ∧ R (.dat (f d)) μ1) (hg : Gl X x := by rfl) (hdb : (x == ("__debug__" : Str)) = false := by decide)
    (he : starEach [e] X.env = (false, eval e X.env) :: starEach [] X.env := by rfl) (hpl : (backTo pos (starEach [] X.env)).any (·.1) = false := by rfl) : DE X w (.Call (.Name x p) [e] [] pos) ρ μ R :=
  de_pure O hr hkj hgd (da_cons (hs := he) (ha.imp fun r μ1 ⟨d, e1, h1, h2⟩ => da_nil (by subst e1; exact ⟨_, rfl, ⟨_, rfl, h1⟩, fun d' ⟨_, e3, e4⟩ => by cases e3; subst e4; exact h2⟩))) hg hdb he hpl
end
section
variable (P : Program) (w : World) (K : PySem.W.Frag) (mg : Str → Option Value) (base : Heap)
structure Txt : Prop where
  isi : mg "isinstance" = none
  int : mg "int" = none
  bool : mg "bool" = none
  str : mg "str" = none
  tup : mg "tuple" = none
  list : mg "list" = none
  len : mg "len" = none
  all : mg "all" = none
  max : mg "max" = none
  min : mg "min" = none
  repr : mg "repr" = none
  range : mg "range" = none
  divmod : mg "divmod" = none
  sup : mg "super" = none
  ve : mg "ValueError" = none
  le : mg "LookupError" = none
  ke : mg "KeyError" = none
  re : mg "RuntimeError" = none
  ae : mg "ArithmeticError" = none
  ie : mg "IndexError" = none
  ze : mg "ZeroDivisionError" = none
end
/-! what the looks say -/
def wholeD (d : Dt) : Bool := isInt d && !isBl d
def low (c : Nat) : Bool := decide (97 ≤ c) && decide (c ≤ 122)
def nameD : Dt → Bool
  | .str x => decide (1 ≤ x.length) && decide (x.length ≤ 8) && x.cps.toList.all low
  | _ => false
def lotsGo : Int → List Dt → Bool
  | _, [] => true
  | f, .int n :: ds => decide (0 ≤ n) && decide (n ≤ f) && lotsGo (max f (n + 1)) ds
  | _, _ :: _ => false
def lotsD : Dt → Bool
  | .tup xs => decide (xs.length ≤ 6) && lotsGo 0 xs
  | _ => false
def inD (lo hi : Int) : Dt → Bool
  | .int n => decide (lo ≤ n) && decide (n ≤ hi)
  | _ => false
def whoD : Dt → Bool
  | .tup (d :: ds) => nameD d && ds.all (inD 0 11)
  | _ => false
def spWhole : Sp := PSp (ok1 Fi) (re1 fun d => .bl (wholeD d))
def spName : Sp := PSp (ok1 Fi) (re1 fun d => .bl (nameD d))
def spLots : Sp := PSp (ok1 Fi) (re1 fun d => .bl (lotsD d))
def spPlace : Sp := PSp (ok1 Fi) (re1 fun d => .bl (inD 0 11 d))
def spWho : Sp := PSp (ok1 Fi) (re1 fun d => .bl (whoD d))
def signD : Dt → Bool
  | .str z => z.cps.toList.all low
  | _ => false
theorem signs_all (x : Str) : ((Dat.signs x).map signD).all id = x.cps.toList.all low := by
  unfold Dat.signs
  rw [List.map_map, List.all_map]
  congr 1
  funext c
  simp [signD]
theorem atI_nat (ds : List Dt) (n : Nat) (d : Dt) (h : ds[n]? = some d) : atI ds (n : Int) = some d := by
  have hn : n < ds.length := (List.getElem?_eq_some_iff.mp h).1
  unfold atI ixN
  rw [if_pos (by omega), if_pos (by omega)]
  exact h
theorem atI_head (d : Dt) (ds : List Dt) : atI (d :: ds) 0 = some d := atI_nat _ 0 _ rfl
theorem atI_last (ds : List Dt) (n : Int) (d : Dt) (h0 : 0 ≤ n) (h : ds[n.toNat]? = some d) : atI ds n = some d := by
  have := atI_nat ds n.toNat d h
  rwa [Int.toNat_of_nonneg h0] at this
theorem cut_tail (d : Dt) (ds : List Dt) : Dat.cutD (d :: ds) (some 1) none = ds := by
  have e : min (Int.toNat 1) (ds.length + 1) = 1 := by
    show min 1 (ds.length + 1) = 1
    omega
  simp [Dat.cutD, HT.sIx, e]
theorem six_nat (N d n : Nat) (h : n ≤ N) : HT.sIx N d (some (n : Int)) = n := by
  show (if (n : Int) < 0 then ((n : Int) + N).toNat else min (n : Int).toNat N) = n
  rw [if_neg (by omega), Int.toNat_natCast, Nat.min_eq_left h]
theorem cut_to (ds : List Dt) (n : Nat) (h : n ≤ ds.length) : Dat.cutD ds none (some (n : Int)) = ds.take n := by
  unfold Dat.cutD
  rw [six_nat _ _ _ h]
  rfl
theorem cut_from (ds : List Dt) (n : Nat) (h : n ≤ ds.length) : Dat.cutD ds (some (n : Int)) none = ds.drop n := by
  unfold Dat.cutD
  rw [six_nat _ _ _ h]
  exact List.take_of_length_le (by rw [List.length_drop]; exact Nat.le_refl _)
end K19

set_option Elab.async false
set_option linter.all false
set_option maxRecDepth 100000
set_option maxHeartbeats 4000000
namespace K19
open PySem PySem.Spec PyProof.Rows L2 Dat Er
local macro_rules
  | `(tactic| walk_at "down") => `(tactic| fail "none")
local macro_rules
  | `(tactic| walk_at "dset") => `(tactic| fail "none")
local macro_rules
  | `(tactic| walk_at "dhook") => `(tactic| fail "none")
local macro_rules
  | `(tactic| walk_at "dca") => `(tactic| fail "none")
local macro_rules
  | `(tactic| walk_at "dlst") => `(tactic| refine de_lst ?_)
local macro_rules
  | `(tactic| walk_at "dtup") => `(tactic| refine de_tup ?_)
local macro_rules
  | `(tactic| walk_at "dstep") => `(tactic| first
    | ((with_reducible show DE _ _ _ _ _ _); first | ((with_reducible show DE _ _ (Expr.Name _ _) _ _ _); first | ((with_reducible show DE _ _ (Expr.Name "int" _) _ _ _); refine de_ty_int (by assumption) ?_) | ((with_reducible show DE _ _ (Expr.Name "str" _) _ _ _); refine de_ty_str (by assumption) ?_) | ((with_reducible show DE _ _ (Expr.Name "bool" _) _ _ _); refine de_ty_bool (by assumption) ?_) | ((with_reducible show DE _ _ (Expr.Name "tuple" _) _ _ _); refine de_ty_tuple (by assumption) ?_) | ((with_reducible show DE _ _ (Expr.Name "list" _) _ _ _); refine de_ty_list (by assumption) ?_) | ((with_reducible show DE _ _ (Expr.Name "dict" _) _ _ _); refine de_ty_dict (by assumption) ?_) | refine de_nm rfl ?_ | refine de_globI (by assumption) ?_) | ((with_reducible show DE _ _ (Expr.Constant _ _ _) _ _ _); first | refine de_int ?_ | refine de_str ?_ | refine de_bl ?_ | refine de_non ?_) | ((with_reducible show DE _ _ (Expr.Call (Expr.Name _ _) _ _ _) _ _ _); first | ((with_reducible show DE _ _ (Expr.Call (Expr.Name "isinstance" _) _ _ _) _ _ _); refine de_isinstance ?_ (by assumption)) | ((with_reducible show DE _ _ (Expr.Call (Expr.Name "len" _) _ _ _) _ _ _); refine de_len ?_ (by assumption)) | ((with_reducible show DE _ _ (Expr.Call (Expr.Name "max" _) _ _ _) _ _ _); refine de_max ?_ (by assumption)) | ((with_reducible show DE _ _ (Expr.Call (Expr.Name "min" _) _ _ _) _ _ _); refine de_min ?_ (by assumption)) | ((with_reducible show DE _ _ (Expr.Call (Expr.Name "all" _) _ _ _) _ _ _); refine de_all ?_ (by assumption)) | ((with_reducible show DE _ _ (Expr.Call (Expr.Name "repr" _) _ _ _) _ _ _); refine de_repr ?_ (by assumption)) | ((with_reducible show DE _ _ (Expr.Call (Expr.Name "divmod" _) _ _ _) _ _ _); refine de_divmod ?_ (by assumption)) | ((with_reducible show DE _ _ (Expr.Call (Expr.Name "list" _) _ _ _) _ _ _); refine de_clist ?_ (by assumption)) | ((with_reducible show DE _ _ (Expr.Call (Expr.Name "tuple" _) _ _ _) _ _ _); refine de_ctuple ?_ (by assumption)) | ((with_reducible show DE _ _ (Expr.Call (Expr.Name "int" _) _ _ _) _ _ _); refine de_cint ?_ (by assumption)) | ((with_reducible show DE _ _ (Expr.Call (Expr.Name "str" _) _ _ _) _ _ _); refine de_cstr ?_ (by assumption)) | walk_at "down") | ((with_reducible show DE _ _ (Expr.BinOp _ _ _ _) _ _ _); refine de_op ?_) | ((with_reducible show DE _ _ (Expr.Compare _ [_] _ _) _ _ _); refine de_cmp ?_) | ((with_reducible show DE _ _ (Expr.Compare _ [_, _] _ _) _ _ _); refine de_chain ?_) | ((with_reducible show DE _ _ (Expr.Subscript _ (Expr.Slice _ _ _ _) _) _ _ _); refine de_slice ?_) | ((with_reducible show DE _ _ (Expr.Subscript _ _ _) _ _ _); refine de_ix ?_) | ((with_reducible show DE _ _ (Expr.BoolOp _ [_] _) _ _ _); refine de_one ?_) | ((with_reducible show DE _ _ (Expr.BoolOp BoolOp.And _ _) _ _ _); refine de_and ?_) | ((with_reducible show DE _ _ (Expr.BoolOp BoolOp.Or _ _) _ _ _); refine de_or ?_) | ((with_reducible show DE _ _ (Expr.UnaryOp UnaryOp.Not _ _) _ _ _); refine de_not ?_) | ((with_reducible show DE _ _ (Expr.UnaryOp _ _ _) _ _ _); refine de_un ?_) | ((with_reducible show DE _ _ (Expr.IfExp _ _ _ _) _ _ _); refine de_ifx ?_) | ((with_reducible show DE _ _ (Expr.Tuple _ _ _) _ _ _); walk_at "dtup") | ((with_reducible show DE _ _ (Expr.List _ _) _ _ _); walk_at "dlst") | ((with_reducible show DE _ _ (Expr.Dict [] [] _) _ _ _); refine de_dict0 ?_) | walk_at "dhook")
    | ((with_reducible show DA _ _ _ _ _ _); first | ((with_reducible show DA _ _ [] _ _ _); refine da_nil ?_) | ((with_reducible show DA _ _ (_ :: _) _ _ _); refine da_cons ?_))
    | ((with_reducible show BoolR _ _); refine ⟨_, rfl, ?_⟩)
    | ((with_reducible show (_ = true → _) ∧ (_ = false → _)); (refine ⟨fun h => ?_, fun h => ?_⟩ <;> try (exact Bool.noConfusion h)))
    | ((with_reducible show OpD _ _ _ _ _ _ _); first | ((with_reducible show OpD _ _ (binaryOp Operator.Add) _ _ _ _); first | refine op_addI ?_ | refine op_addT ?_) | ((with_reducible show OpD _ _ (binaryOp Operator.Sub) _ _ _ _); refine op_subI ?_) | ((with_reducible show OpD _ _ (binaryOp Operator.Mod) _ _ _ _); refine op_modI (by first | decide | assumption) ?_) | ((with_reducible show OpD _ _ (binaryOp Operator.Mult) _ _ _ _); refine op_mulI (by first | exact .inr (by decide) | exact .inl (by decide) | (exact .inl (by omega))) ?_) | ((with_reducible show OpD _ _ (binaryOp Operator.Pow) _ _ _ _); refine op_powI (by decide) (by decide) (by decide) ?_) | ((with_reducible show OpD _ _ (binaryOp Operator.FloorDiv) _ _ _ _); refine op_fdivI (by decide) (by decide) ?_) | ((with_reducible show OpD _ _ (compareOp CmpOp.Lt) _ _ _ _); refine op_ltI ?_) | ((with_reducible show OpD _ _ (compareOp CmpOp.LtE) _ _ _ _); first | refine op_leI ?_ | refine op_leS ?_) | ((with_reducible show OpD _ _ (compareOp CmpOp.Gt) _ _ _ _); refine op_gtI ?_) | ((with_reducible show OpD _ _ (compareOp CmpOp.GtE) _ _ _ _); refine op_geI ?_) | ((with_reducible show OpD _ _ (compareOp CmpOp.Eq) _ _ _ _); first | refine op_eqI ?_ | refine op_eqS ?_) | ((with_reducible show OpD _ _ (compareOp CmpOp.NotEq) _ _ _ _); first | refine op_neI ?_ | refine op_neS ?_))
    | ((with_reducible show CaD _ _ _ _ _ _); first | ((with_reducible show CaD _ _ (Value.builtin "isinstance") [_, SV.ty "int"] _ _); refine ca_isi (by assumption) (kit_int _ (by assumption)) ?_) | ((with_reducible show CaD _ _ (Value.builtin "isinstance") [_, SV.ty "bool"] _ _); refine ca_isi (by assumption) (kit_bool _ (by assumption)) ?_) | ((with_reducible show CaD _ _ (Value.builtin "isinstance") [_, SV.ty "str"] _ _); refine ca_isi (by assumption) (kit_str _ (by assumption)) ?_) | ((with_reducible show CaD _ _ (Value.builtin "isinstance") [_, SV.ty "tuple"] _ _); refine ca_isi (by assumption) (kit_tuple _ (by assumption)) ?_) | ((with_reducible show CaD _ _ (Value.builtin "isinstance") [_, SV.ty "list"] _ _); refine ca_isi (by assumption) (kit_list _ (by assumption)) ?_) | ((with_reducible show CaD _ _ (Value.builtin "isinstance") [_, SV.ty "dict"] _ _); refine ca_isi (by assumption) (kit_dict _ (by assumption)) ?_) | ((with_reducible show CaD _ _ (Value.builtin "max") _ _ _); refine ca_max2 rfl ?_) | ((with_reducible show CaD _ _ (Value.builtin "min") _ _ _); refine ca_min2 rfl ?_) | ((with_reducible show CaD _ _ (Value.builtin "len") _ _ _); first | refine ca_lenT ?_ | refine ca_lenS (by assumption) ?_ | refine ca_lenSc ?_ | refine ca_lenL (.inl rfl) ?_) | ((with_reducible show CaD _ _ (Value.type "list") _ _ _); refine ca_listT ?_) | ((with_reducible show CaD _ _ (Value.builtin "divmod") _ _ _); refine ca_divmod (by assumption) (by omega) ?_) | walk_at "dca")
    | ((with_reducible show DT _ _ _ _ _ _); first | ((with_reducible show DT _ _ (Expr.BoolOp _ _ _) _ _ _); refine dt_w ?_) | ((with_reducible show DT _ _ (Expr.UnaryOp UnaryOp.Not _ _) _ _ _); refine dt_not ?_) | ((with_reducible show DT _ _ (Expr.Compare _ [_] _ _) _ _ _); refine dt_cmp ?_) | ((with_reducible show DT _ _ (Expr.Compare _ [_, _] _ _) _ _ _); refine dt_chain ?_) | refine dt_val ?_)
    | ((with_reducible show DW _ _ _ _ _ _); first | ((with_reducible show DW _ _ (Expr.BoolOp BoolOp.And [_] _) _ _ _); refine dw_and1 ?_) | ((with_reducible show DW _ _ (Expr.BoolOp BoolOp.Or [_] _) _ _ _); refine dw_or1 ?_) | ((with_reducible show DW _ _ (Expr.BoolOp BoolOp.And _ _) _ _ _); refine dw_and ?_) | ((with_reducible show DW _ _ (Expr.BoolOp BoolOp.Or _ _) _ _ _); refine dw_or ?_))
    | ((with_reducible show DSs _ _ _ _ _ _); first | ((with_reducible show DSs _ _ [] _ _ _); refine dss_nil ?_) | ((with_reducible show DSs _ _ [_] _ _ _); refine dss_one ?_) | ((with_reducible show DSs _ _ (_ :: _) _ _ _); refine dss_cons ?_))
    | ((with_reducible show DS _ _ _ _ _ _); first | ((with_reducible show DS _ _ (Stmt.Return (some _) _) _ _ _); refine ds_ret ?_) | ((with_reducible show DS _ _ (Stmt.If _ _ _ _) _ _ _); refine ds_if ?_) | ((with_reducible show DS _ _ (Stmt.Expr _ _) _ _ _); refine ds_expr ?_) | ((with_reducible show DS _ _ (Stmt.Assign [Expr.Name _ _] _ _) _ _ _); walk_at "dset"))
    | ((with_reducible show DP _ _ none _ _ _); refine dp_none ?_)
    | ((with_reducible show DP _ _ (some _) _ _ _); refine dp_some ?_)
    | ((with_reducible show ∃ d, SV.dat _ = SV.dat d ∧ Fi d ∧ _); refine ⟨_, rfl, by assumption, ?_⟩)
    | ((with_reducible show ∃ i, SV.dat (Dt.int _) = SV.dat (Dt.int i) ∧ _); refine ⟨_, rfl, ?_⟩)
    | ((with_reducible show SlD _ _ (SV.dat (Dt.tup _)) _ _ _ _); refine sl_dT ?_)
    | ((with_reducible show ∃ ds, undat _ = some ds ∧ ds.length ≤ 1000 ∧ _); refine ⟨_, rfl, Nat.le_of_ble_eq_true rfl, ?_⟩)
    | ((with_reducible show ∃ q, SV.at _ = SV.at q ∧ _); refine ⟨_, rfl, ?_⟩)
    | ((with_reducible show ∃ z, SV.dat (Dt.str _) = SV.dat (Dt.str z) ∧ _); refine ⟨_, rfl, ?_⟩)
    | ((with_reducible show IxD _ _ (SV.at _) (SV.dat (Dt.int 0)) _ _); refine ix_pot0 (by assumption) (fun _ _ => ?_))
    | ((with_reducible show IxD _ _ (SV.at _) (SV.dat (Dt.int 1)) _ _); refine ix_pot1 (by assumption) (fun _ _ _ => ?_))
    | ((with_reducible show UnD _ _ (unaryOp UnaryOp.USub) _ _ _); refine un_negI ?_)
    | ((with_reducible show Po.nx _ _ _); dsimp only)
    | ((with_reducible show Po.rt _ _ _); dsimp only))
local macro_rules
  | `(tactic| walk_at "drun") => `(tactic| repeat' (walk_at "dstep"))

/-! ### the pot -/
def spPot (K : PySem.W.Frag) : Sp := GSp (fun rs _ => ∃ a ns k, rs = [.sc K a ns, .dat (.int k)] ∧ 0 ≤ k ∧ k ≤ 100 ∧ ns.length ≤ 1000) fun rs μ r μ' => ∃ p, r = .at p ∧ μ p = none ∧ μ' = μ.put p .pot
def okM (m : Int) : Prop := 0 < m ∧ m < 1073741824
def spTake : Sp := QSp (fun ds => ∃ m, ds = [.int m] ∧ okM m) fun ds r => ∃ m v, ds = [.int m] ∧ r = .int v ∧ 0 ≤ v ∧ v < m
section
variable {X : Cx} {w : Wd} {ρ : List SV} {μ : Mus} {R : SV → Mus → Prop} {e e2 e3 : Expr} {es : List Expr} {x : Str} {p pos : Pos} {j k : Nat}
theorem de_take {x : Str} (O : Own X.prog X.w X.K X.mg X.base x k spTake) (hr : Room j X.A) (hkj : k ≤ j) (hgd : X.A.guards = some [])
    (ha : DE X w e ρ μ fun r μ1 => ∃ q, r = .at q ∧ DE X w e2 ρ μ1 fun r2 μ2 => ∃ m, r2 = .dat (.int m) ∧ μ2 q = some .pot ∧ okM m ∧ ∀ v, 0 ≤ v → v < m → R (.dat (.int v)) μ2) (hg : Gl X x := by rfl) (hdb : (x == ("__debug__" : Str)) = false := by decide)
    (he : starEach [e, e2] X.env = (false, eval e X.env) :: starEach [e2] X.env := by rfl) (he2 : starEach [e2] X.env = (false, eval e2 X.env) :: starEach [] X.env := by rfl) (hpl : (backTo pos (starEach [e2] X.env)).any (·.1) = false := by rfl) : DE X w (.Call (.Name x p) [e, e2] [] pos) ρ μ R :=
  de_pot O hr hkj hgd (da_cons (hs := he) (ha.imp fun r μ1 ⟨q, e1, h1⟩ => by
    subst e1
    exact da_cons (hs := he2) (h1.imp fun r2 μ2 ⟨m, e3, h2, h3, h4⟩ => by
      subst e3
      refine da_nil ⟨q, [.dat (.int m)], [.int m], rfl, rfl, h2, ⟨m, rfl, h3⟩, fun d ⟨m', v, e4, e5, h5, h6⟩ => ?_⟩
      cases e4
      subst e5
      exact h4 v h5 h6))) hg hdb he hpl
end
set_option hygiene false in
local macro_rules
  | `(tactic| walk_at "down") => `(tactic| first | ((with_reducible show DE _ _ (Expr.Call (Expr.Name "_law_take" _) _ _ _) _ _ _); refine de_take oTake hr (by decide) hg ?_))
section
variable {P : Program} {w : World} {K : PySem.W.Frag} {mg : Str → Option Value} {base : Heap}
abbrev sPot : Stmt := top 20
theorem scPot : FnScope ["_law_script", "_law_k", "_law_cell"] ["_law_script", "_law_k"] (defScope sPot) := ⟨rfl, rfl, rfl, by decide +kernel, rfl, by decide +kernel, by decide +kernel⟩
set_option hygiene false in
local macro_rules
  | `(tactic| walk_at "dset") => `(tactic| refine ds_set 2 hN ?_)
local macro_rules
  | `(tactic| walk_at "dlst") => `(tactic| refine de_lstPot ?_)
theorem ok_pot {f : Addr} {fd : FuncData} (F : Fun K "_law_pot" "_law_pot" sPot f fd) (T : Txt mg) : FnG P w K mg base 1 f fd ["_law_script", "_law_k"] (spPot K) := by
  refine fn_ok F scPot (fun rs μ ⟨a, ns, k, e, _⟩ => by rw [e]; rfl) fun cdv A outer s H hr hg w' rs μ ⟨a, ns, k, e, hk0, hk1, hns⟩ => ?_
  subst e
  obtain ⟨t1, t2, t3, t4, t5, t6, t7, t8, t9, t10, t11, t12, t13, t14, t15, t16, t17, t18, t19, t20, t21⟩ := T
  have hN : (["_law_script", "_law_k", "_law_cell"] : List Str).Nodup := by decide +kernel
  have fin : ∀ c : Int, DSs (bx P w K mg base ["_law_script", "_law_k", "_law_cell"] "_law_pot" sPot f cdv A outer s H) w' ((defBody sPot).drop 1) [.sc K a ns, .dat (.int k), .dat (.int c)] μ
      { nx := fun x μ' => ∃ ν, ν.Sub μ' ∧ ∃ p, SV.dat Dt.non = SV.at p ∧ μ p = none ∧ ν = μ.put p .pot, rt := fun r μ' => ∃ ν, ν.Sub μ' ∧ ∃ p, r = SV.at p ∧ μ p = none ∧ ν = μ.put p .pot } := by
    intro c
    refine dss_one ?_
    walk_at "drun"
    refine ⟨_, _, rfl, ?_, ?_, ?_, fun p h1 _ => ⟨_, Mus.Sub.refl _, p, rfl, h1, rfl⟩⟩
    · omega
    · omega
    · omega
  refine dss_cons ?_
  walk_at "drun"
  · rename_i h
    have hk2 := of_decide_eq_true h
    refine ix_sc (n := ns[k.toNat]'(by omega)) ?_ ?_
    · unfold atI ixN
      rw [if_pos hk0, if_pos (by omega)]
      exact List.getElem?_eq_getElem _
    · exact fin _
  · refine ⟨_, _, rfl, ?_, ?_, ?_, fun p h1 _ => ⟨_, Mus.Sub.refl _, p, rfl, h1, rfl⟩⟩
    · omega
    · omega
    · omega
abbrev sTake : Stmt := top 21
theorem scTake : FnScope ["_law_pot_here", "_law_much", "_law_digit"] ["_law_pot_here", "_law_much"] (defScope sTake) := ⟨rfl, rfl, rfl, by decide +kernel, rfl, by decide +kernel, by decide +kernel⟩
theorem ok_take {f : Addr} {fd : FuncData} (F : Fun K "_law_take" "_law_take" sTake f fd) (T : Txt mg) : FnG P w K mg base 1 f fd ["_law_pot_here", "_law_much"] spTake := by
  refine fn_pot F scTake (fun ds ⟨m, e, _⟩ => by rw [e]; rfl) fun cdv A outer s H hr hg w' p ds μ hp ⟨m, e, hm0, hm1⟩ => ?_
  subst e
  obtain ⟨t1, t2, t3, t4, t5, t6, t7, t8, t9, t10, t11, t12, t13, t14, t15, t16, t17, t18, t19, t20, t21⟩ := T
  have hN : (["_law_pot_here", "_law_much", "_law_digit"] : List Str).Nodup := by decide +kernel
  refine dss_cons ?_
  walk_at "drun"
  · rename_i a ha h
    refine ds_asg ?_
    walk_at "drun"
    rename_i a' ha'
    refine dg_tup rfl (dgs_cons (dg_pot ?_) rfl) rfl
    walk_at "drun"
    refine ⟨hp, .inl ⟨rfl, ?_⟩, ?_⟩
    · exact Int.ediv_nonneg ha' (Int.le_of_lt hm0)
    refine dgs_cons (dg_name 2 hN (dgs_nil ?_)) rfl
    walk_at "drun"
    exact ⟨_, rfl, ⟨m, _, rfl, rfl, Int.emod_nonneg _ (by omega), Int.emod_lt_of_pos _ hm0⟩, Mus.Sub.refl _⟩
  · rename_i a ha h
    refine ds_asg ?_
    walk_at "drun"
    refine dg_pot ?_
    walk_at "drun"
    refine ⟨hp, .inr ⟨rfl, ?_, ?_⟩, ?_⟩
    · omega
    · omega
    walk_at "drun"
    exact ⟨_, rfl, ⟨m, _, rfl, rfl, Int.emod_nonneg _ (by omega), Int.emod_lt_of_pos _ hm0⟩, Mus.Sub.refl _⟩
end
def ok0 : List Dt → Prop := fun ds => ds = []
section
variable {X : Cx} {w : Wd} {ρ : List SV} {μ : Mus} {R : SV → Mus → Prop} {e e2 e3 : Expr} {es : List Expr} {x : Str} {p pos : Pos} {j k : Nat}
theorem de_q0 {x : Str} {res : List Dt → Dt → Prop} (O : Own X.prog X.w X.K X.mg X.base x k (QSp ok0 res)) (hr : Room j X.A) (hkj : k ≤ j) (hgd : X.A.guards = some [])
    (ha : DE X w e ρ μ fun r μ1 => ∃ q, r = .at q ∧ μ1 q = some .pot ∧ ∀ d, res [] d → R (.dat d) μ1) (hg : Gl X x := by rfl) (hdb : (x == ("__debug__" : Str)) = false := by decide)
    (he : starEach [e] X.env = (false, eval e X.env) :: starEach [] X.env := by rfl) (hpl : (backTo pos (starEach [] X.env)).any (·.1) = false := by rfl) : DE X w (.Call (.Name x p) [e] [] pos) ρ μ R :=
  de_pot O hr hkj hgd (da_cons (hs := he) (ha.imp fun r μ1 ⟨q, e1, h1, h2⟩ => by
    subst e1
    exact da_nil ⟨q, [], [], rfl, rfl, h1, rfl, h2⟩)) hg hdb he hpl
end
theorem atI_some (ds : List Dt) (v : Int) (h0 : 0 ≤ v) (h1 : v < ds.length) : ∃ d, d ∈ ds ∧ atI ds v = some d := by
  have hl : v.toNat < ds.length := by omega
  exact ⟨ds[v.toNat], List.getElem_mem hl, atI_last ds v _ h0 (List.getElem?_eq_getElem hl)⟩
section
variable {P : Program} {w : World} {K : PySem.W.Frag} {mg : Str → Option Value} {base : Heap}
/-! ### odd things -/
def chD (s : String) : Dt := .str s
def odds1 : List Dt := [.non, .int 0, .bl false, .bl true, .int 1, .int (-1), .int 7, chD "", chD "A", chD "a b", chD "a1", chD "abcdefghi", chD "a", .tup [], .lst [], .dic [] [], .tup [.int 0], .lst [.int 0], .tup [chD "a"]]
def odds2 : List Dt := [.lst [chD "a"], .tup [.tup []], .tup [.non], .tup [chD "a", .int 1], .tup [chD "a", .int 12], .tup [chD "a", .int (-1)], .tup [chD "A"], .tup [chD "a", .bl true], .dic [chD "a"] [.tup []]]
def Odd (d : Dt) : Prop := fine 9 18 2 d ∧ (hasDic d = true → hasLst d = false)
def spOdd : Sp := QSp ok0 fun _ r => Odd r
def fineB : Nat → Dt → Bool
  | _, .non => true
  | _, .bl _ => true
  | _, .int i => decide (i.natAbs < 10 ^ 30)
  | _, .str x => decide (x.length ≤ 9) && x.cps.toList.all fun c => decide (c < 256)
  | n + 1, .lst xs => decide (xs.length ≤ 18) && xs.all (fineB n)
  | n + 1, .tup xs => decide (xs.length ≤ 18) && xs.all (fineB n)
  | n + 1, .dic ks vs => decide (ks.length ≤ 4) && ks.all (fineB n) && vs.all (fineB n)
  | _, _ => false
theorem fine_of : ∀ (n : Nat) (d : Dt), fineB n d = true → fine 9 18 n d
  | 0, d, h => by
    cases d with
    | str x =>
      simp only [fineB, Bool.and_eq_true, decide_eq_true_eq, List.all_eq_true] at h
      exact h
    | _ => simp_all [fineB, fine]
  | n + 1, d, h => by
    cases d with
    | str x =>
      simp only [fineB, Bool.and_eq_true, decide_eq_true_eq, List.all_eq_true] at h
      exact h
    | lst xs =>
      simp only [fineB, Bool.and_eq_true, decide_eq_true_eq, List.all_eq_true] at h
      exact ⟨h.1, fun d hd => fine_of n d (h.2 d hd)⟩
    | tup xs =>
      simp only [fineB, Bool.and_eq_true, decide_eq_true_eq, List.all_eq_true] at h
      exact ⟨h.1, fun d hd => fine_of n d (h.2 d hd)⟩
    | dic ks vs =>
      simp only [fineB, Bool.and_eq_true, decide_eq_true_eq, List.all_eq_true] at h
      exact ⟨h.1.1, fun d hd => fine_of n d (h.1.2 d hd), fun d hd => fine_of n d (h.2 d hd)⟩
    | _ => simp_all [fineB, fine]
theorem odds_odd : ∀ d, d ∈ odds1 ++ odds2 → Odd d := by
  have h : (odds1 ++ odds2).all (fun d => fineB 2 d && (!hasDic d || !hasLst d)) = true := by decide +kernel
  intro d hd
  have := List.all_eq_true.mp h d hd
  rw [Bool.and_eq_true] at this
  refine ⟨fine_of 2 d this.1, fun g => ?_⟩
  have h2 := this.2
  rw [g] at h2
  simpa using h2
abbrev sOdd : Stmt := top 22
theorem scOdd : FnScope ["_law_pot_here", "_law_some"] ["_law_pot_here"] (defScope sOdd) := ⟨rfl, rfl, rfl, by decide +kernel, rfl, by decide +kernel, by decide +kernel⟩
theorem ok_odd {f : Addr} {fd : FuncData} (F : Fun K "_law_odd" "_law_odd" sOdd f fd) (T : Txt mg) (oTake : Own P w K mg base "_law_take" 1 spTake) : FnG P w K mg base 2 f fd ["_law_pot_here"] spOdd := by
  refine fn_pot F scOdd (fun ds e => by rw [e]; rfl) fun cdv A outer s H hr hg w' p ds μ hp e => ?_
  subst e
  obtain ⟨t1, t2, t3, t4, t5, t6, t7, t8, t9, t10, t11, t12, t13, t14, t15, t16, t17, t18, t19, t20, t21⟩ := T
  have hN : (["_law_pot_here", "_law_some"] : List Str).Nodup := by decide +kernel
  refine dss_cons (ds_set 1 hN ?_)
  walk_at "drun"
  refine ds_set 1 hN ?_
  walk_at "drun"
  refine de_dict1 fun _ => ?_
  walk_at "drun"
  refine ⟨_, rfl, ?_⟩
  walk_at "drun"
  refine op_addL (.inl rfl) (.inl rfl) (small_ok (by decide)) ?_
  walk_at "drun"
  refine ⟨hp, ⟨by decide, by decide⟩, fun v hv0 hv1 => ?_⟩
  obtain ⟨d, hd, hat⟩ := atI_some (odds1 ++ odds2) v hv0 (by simpa [odds1, odds2] using hv1)
  exact ix_dL (.inl rfl) hat ⟨_, rfl, odds_odd d hd, Mus.Sub.refl _⟩
end
end K19

set_option Elab.async false
set_option linter.all false
set_option maxRecDepth 100000
set_option maxHeartbeats 4000000
namespace K19
open PySem PySem.Spec PyProof.Rows L2 Dat Er
local macro_rules
  | `(tactic| walk_at "down") => `(tactic| fail "none")
local macro_rules
  | `(tactic| walk_at "dset") => `(tactic| fail "none")
local macro_rules
  | `(tactic| walk_at "dhook") => `(tactic| fail "none")
local macro_rules
  | `(tactic| walk_at "dca") => `(tactic| fail "none")
local macro_rules
  | `(tactic| walk_at "dlst") => `(tactic| refine de_lst ?_)
local macro_rules
  | `(tactic| walk_at "dtup") => `(tactic| refine de_tup ?_)
local macro_rules
  | `(tactic| walk_at "dstep") => `(tactic| first
    | ((with_reducible show DE _ _ _ _ _ _); first | ((with_reducible show DE _ _ (Expr.Name _ _) _ _ _); first | ((with_reducible show DE _ _ (Expr.Name "int" _) _ _ _); refine de_ty_int (by assumption) ?_) | ((with_reducible show DE _ _ (Expr.Name "str" _) _ _ _); refine de_ty_str (by assumption) ?_) | ((with_reducible show DE _ _ (Expr.Name "bool" _) _ _ _); refine de_ty_bool (by assumption) ?_) | ((with_reducible show DE _ _ (Expr.Name "tuple" _) _ _ _); refine de_ty_tuple (by assumption) ?_) | ((with_reducible show DE _ _ (Expr.Name "list" _) _ _ _); refine de_ty_list (by assumption) ?_) | ((with_reducible show DE _ _ (Expr.Name "dict" _) _ _ _); refine de_ty_dict (by assumption) ?_) | refine de_nm rfl ?_ | refine de_globI (by assumption) ?_) | ((with_reducible show DE _ _ (Expr.Constant _ _ _) _ _ _); first | refine de_int ?_ | refine de_str ?_ | refine de_bl ?_ | refine de_non ?_) | ((with_reducible show DE _ _ (Expr.Call (Expr.Name _ _) _ _ _) _ _ _); first | ((with_reducible show DE _ _ (Expr.Call (Expr.Name "isinstance" _) _ _ _) _ _ _); refine de_isinstance ?_ (by assumption)) | ((with_reducible show DE _ _ (Expr.Call (Expr.Name "len" _) _ _ _) _ _ _); refine de_len ?_ (by assumption)) | ((with_reducible show DE _ _ (Expr.Call (Expr.Name "max" _) _ _ _) _ _ _); refine de_max ?_ (by assumption)) | ((with_reducible show DE _ _ (Expr.Call (Expr.Name "min" _) _ _ _) _ _ _); refine de_min ?_ (by assumption)) | ((with_reducible show DE _ _ (Expr.Call (Expr.Name "all" _) _ _ _) _ _ _); refine de_all ?_ (by assumption)) | ((with_reducible show DE _ _ (Expr.Call (Expr.Name "repr" _) _ _ _) _ _ _); refine de_repr ?_ (by assumption)) | ((with_reducible show DE _ _ (Expr.Call (Expr.Name "divmod" _) _ _ _) _ _ _); refine de_divmod ?_ (by assumption)) | ((with_reducible show DE _ _ (Expr.Call (Expr.Name "list" _) _ _ _) _ _ _); refine de_clist ?_ (by assumption)) | ((with_reducible show DE _ _ (Expr.Call (Expr.Name "tuple" _) _ _ _) _ _ _); refine de_ctuple ?_ (by assumption)) | ((with_reducible show DE _ _ (Expr.Call (Expr.Name "int" _) _ _ _) _ _ _); refine de_cint ?_ (by assumption)) | ((with_reducible show DE _ _ (Expr.Call (Expr.Name "str" _) _ _ _) _ _ _); refine de_cstr ?_ (by assumption)) | walk_at "down") | ((with_reducible show DE _ _ (Expr.BinOp _ _ _ _) _ _ _); refine de_op ?_) | ((with_reducible show DE _ _ (Expr.Compare _ [_] _ _) _ _ _); refine de_cmp ?_) | ((with_reducible show DE _ _ (Expr.Compare _ [_, _] _ _) _ _ _); refine de_chain ?_) | ((with_reducible show DE _ _ (Expr.Subscript _ (Expr.Slice _ _ _ _) _) _ _ _); refine de_slice ?_) | ((with_reducible show DE _ _ (Expr.Subscript _ _ _) _ _ _); refine de_ix ?_) | ((with_reducible show DE _ _ (Expr.BoolOp _ [_] _) _ _ _); refine de_one ?_) | ((with_reducible show DE _ _ (Expr.BoolOp BoolOp.And _ _) _ _ _); refine de_and ?_) | ((with_reducible show DE _ _ (Expr.BoolOp BoolOp.Or _ _) _ _ _); refine de_or ?_) | ((with_reducible show DE _ _ (Expr.UnaryOp UnaryOp.Not _ _) _ _ _); refine de_not ?_) | ((with_reducible show DE _ _ (Expr.UnaryOp _ _ _) _ _ _); refine de_un ?_) | ((with_reducible show DE _ _ (Expr.IfExp _ _ _ _) _ _ _); refine de_ifx ?_) | ((with_reducible show DE _ _ (Expr.Tuple _ _ _) _ _ _); walk_at "dtup") | ((with_reducible show DE _ _ (Expr.List _ _) _ _ _); walk_at "dlst") | ((with_reducible show DE _ _ (Expr.Dict [] [] _) _ _ _); refine de_dict0 ?_) | walk_at "dhook")
    | ((with_reducible show DA _ _ _ _ _ _); first | ((with_reducible show DA _ _ [] _ _ _); refine da_nil ?_) | ((with_reducible show DA _ _ (_ :: _) _ _ _); refine da_cons ?_))
    | ((with_reducible show BoolR _ _); refine ⟨_, rfl, ?_⟩)
    | ((with_reducible show (_ = true → _) ∧ (_ = false → _)); (refine ⟨fun h => ?_, fun h => ?_⟩ <;> try (exact Bool.noConfusion h)))
    | ((with_reducible show OpD _ _ _ _ _ _ _); first | ((with_reducible show OpD _ _ (binaryOp Operator.Add) _ _ _ _); first | refine op_addI ?_ | refine op_addT ?_) | ((with_reducible show OpD _ _ (binaryOp Operator.Sub) _ _ _ _); refine op_subI ?_) | ((with_reducible show OpD _ _ (binaryOp Operator.Mod) _ _ _ _); refine op_modI (by first | decide | assumption) ?_) | ((with_reducible show OpD _ _ (binaryOp Operator.Mult) _ _ _ _); refine op_mulI (by first | exact .inr (by decide) | exact .inl (by decide) | (exact .inl (by omega))) ?_) | ((with_reducible show OpD _ _ (binaryOp Operator.Pow) _ _ _ _); refine op_powI (by decide) (by decide) (by decide) ?_) | ((with_reducible show OpD _ _ (binaryOp Operator.FloorDiv) _ _ _ _); refine op_fdivI (by decide) (by decide) ?_) | ((with_reducible show OpD _ _ (compareOp CmpOp.Lt) _ _ _ _); refine op_ltI ?_) | ((with_reducible show OpD _ _ (compareOp CmpOp.LtE) _ _ _ _); first | refine op_leI ?_ | refine op_leS ?_) | ((with_reducible show OpD _ _ (compareOp CmpOp.Gt) _ _ _ _); refine op_gtI ?_) | ((with_reducible show OpD _ _ (compareOp CmpOp.GtE) _ _ _ _); refine op_geI ?_) | ((with_reducible show OpD _ _ (compareOp CmpOp.Eq) _ _ _ _); first | refine op_eqI ?_ | refine op_eqS ?_) | ((with_reducible show OpD _ _ (compareOp CmpOp.NotEq) _ _ _ _); first | refine op_neI ?_ | refine op_neS ?_))
    | ((with_reducible show CaD _ _ _ _ _ _); first | ((with_reducible show CaD _ _ (Value.builtin "isinstance") [_, SV.ty "int"] _ _); refine ca_isi (by assumption) (kit_int _ (by assumption)) ?_) | ((with_reducible show CaD _ _ (Value.builtin "isinstance") [_, SV.ty "bool"] _ _); refine ca_isi (by assumption) (kit_bool _ (by assumption)) ?_) | ((with_reducible show CaD _ _ (Value.builtin "isinstance") [_, SV.ty "str"] _ _); refine ca_isi (by assumption) (kit_str _ (by assumption)) ?_) | ((with_reducible show CaD _ _ (Value.builtin "isinstance") [_, SV.ty "tuple"] _ _); refine ca_isi (by assumption) (kit_tuple _ (by assumption)) ?_) | ((with_reducible show CaD _ _ (Value.builtin "isinstance") [_, SV.ty "list"] _ _); refine ca_isi (by assumption) (kit_list _ (by assumption)) ?_) | ((with_reducible show CaD _ _ (Value.builtin "isinstance") [_, SV.ty "dict"] _ _); refine ca_isi (by assumption) (kit_dict _ (by assumption)) ?_) | ((with_reducible show CaD _ _ (Value.builtin "max") _ _ _); refine ca_max2 rfl ?_) | ((with_reducible show CaD _ _ (Value.builtin "min") _ _ _); refine ca_min2 rfl ?_) | ((with_reducible show CaD _ _ (Value.builtin "len") _ _ _); first | refine ca_lenT ?_ | refine ca_lenS (by assumption) ?_ | refine ca_lenSc ?_ | refine ca_lenL (.inl rfl) ?_) | ((with_reducible show CaD _ _ (Value.type "list") _ _ _); refine ca_listT ?_) | ((with_reducible show CaD _ _ (Value.builtin "divmod") _ _ _); refine ca_divmod (by assumption) (by omega) ?_) | walk_at "dca")
    | ((with_reducible show DT _ _ _ _ _ _); first | ((with_reducible show DT _ _ (Expr.BoolOp _ _ _) _ _ _); refine dt_w ?_) | ((with_reducible show DT _ _ (Expr.UnaryOp UnaryOp.Not _ _) _ _ _); refine dt_not ?_) | ((with_reducible show DT _ _ (Expr.Compare _ [_] _ _) _ _ _); refine dt_cmp ?_) | ((with_reducible show DT _ _ (Expr.Compare _ [_, _] _ _) _ _ _); refine dt_chain ?_) | refine dt_val ?_)
    | ((with_reducible show DW _ _ _ _ _ _); first | ((with_reducible show DW _ _ (Expr.BoolOp BoolOp.And [_] _) _ _ _); refine dw_and1 ?_) | ((with_reducible show DW _ _ (Expr.BoolOp BoolOp.Or [_] _) _ _ _); refine dw_or1 ?_) | ((with_reducible show DW _ _ (Expr.BoolOp BoolOp.And _ _) _ _ _); refine dw_and ?_) | ((with_reducible show DW _ _ (Expr.BoolOp BoolOp.Or _ _) _ _ _); refine dw_or ?_))
    | ((with_reducible show DSs _ _ _ _ _ _); first | ((with_reducible show DSs _ _ [] _ _ _); refine dss_nil ?_) | ((with_reducible show DSs _ _ [_] _ _ _); refine dss_one ?_) | ((with_reducible show DSs _ _ (_ :: _) _ _ _); refine dss_cons ?_))
    | ((with_reducible show DS _ _ _ _ _ _); first | ((with_reducible show DS _ _ (Stmt.Return (some _) _) _ _ _); refine ds_ret ?_) | ((with_reducible show DS _ _ (Stmt.If _ _ _ _) _ _ _); refine ds_if ?_) | ((with_reducible show DS _ _ (Stmt.Expr _ _) _ _ _); refine ds_expr ?_) | ((with_reducible show DS _ _ (Stmt.Assign [Expr.Name _ _] _ _) _ _ _); walk_at "dset"))
    | ((with_reducible show DP _ _ none _ _ _); refine dp_none ?_)
    | ((with_reducible show DP _ _ (some _) _ _ _); refine dp_some ?_)
    | ((with_reducible show ∃ d, SV.dat _ = SV.dat d ∧ Fi d ∧ _); refine ⟨_, rfl, by assumption, ?_⟩)
    | ((with_reducible show ∃ i, SV.dat (Dt.int _) = SV.dat (Dt.int i) ∧ _); refine ⟨_, rfl, ?_⟩)
    | ((with_reducible show SlD _ _ (SV.dat (Dt.tup _)) _ _ _ _); refine sl_dT ?_)
    | ((with_reducible show ∃ ds, undat _ = some ds ∧ ds.length ≤ 1000 ∧ _); refine ⟨_, rfl, Nat.le_of_ble_eq_true rfl, ?_⟩)
    | ((with_reducible show ∃ q, SV.at _ = SV.at q ∧ _); refine ⟨_, rfl, ?_⟩)
    | ((with_reducible show ∃ z, SV.dat (Dt.str _) = SV.dat (Dt.str z) ∧ _); refine ⟨_, rfl, ?_⟩)
    | ((with_reducible show IxD _ _ (SV.at _) (SV.dat (Dt.int 0)) _ _); refine ix_pot0 (by assumption) (fun _ _ => ?_))
    | ((with_reducible show IxD _ _ (SV.at _) (SV.dat (Dt.int 1)) _ _); refine ix_pot1 (by assumption) (fun _ _ _ => ?_))
    | ((with_reducible show UnD _ _ (unaryOp UnaryOp.USub) _ _ _); refine un_negI ?_)
    | ((with_reducible show Po.nx _ _ _); dsimp only)
    | ((with_reducible show Po.rt _ _ _); dsimp only))
local macro_rules
  | `(tactic| walk_at "drun") => `(tactic| repeat' (walk_at "dstep"))

/-! ### the errors' classes -/
/-- where they are -/
structure Errs where
  fe : Addr
  nk : Addr
  nw : Addr
  nb : Addr
  nh : Addr
  nt : Addr
  nx : Addr
  nc : Addr
  nr : Addr
  no : Addr
  ne : Addr
  ki : Addr
  ru : Addr
  su : Addr
  me : Addr
  ca : Addr
  un : Addr
  tm : Addr
def cvs (E : Errs) : List Value := [.ref E.fe, .type "ValueError", .ref E.nk, .ref E.nw, .ref E.nb, .ref E.nh, .ref E.nt, .ref E.nx, .ref E.nc, .ref E.nr, .type "LookupError", .ref E.no, .ref E.ne, .type "KeyError", .ref E.ki, .ref E.ru, .ref E.su, .type "RuntimeError", .ref E.me, .ref E.ca, .ref E.un, .type "ArithmeticError", .ref E.tm]
def tests (K : PySem.W.Frag) (E : Errs) (C : Addr) : List (Option Bool) := (cvs E).map (PySem.W.kitOne K (.ref C)) ++ [PySem.W.kitAny K (.ref C) [.type "IndexError", .type "ZeroDivisionError"]]
def bsOf (ps : List Int) : List Bool := (List.range 24).map fun (k : Nat) => decide ((k : Int) ∈ ps)
def okTwo : List Dt → Prop := fun ds => ∀ d, ds[0]? = some d → FmtOk d
section
variable (P : Program) (w : World) (K : PySem.W.Frag) (mg : Str → Option Value)
structure EcF (E : Errs) (x : Str) (C : Addr) (ps : List Int) : Prop where
  g : mg x = some (.ref C)
  k : PySem.W.keepIn K (.ref C) = true
  is : IsC K C
  t : tests K E C = (bsOf ps).map some
structure Ers (E : Errs) : Prop where
  feF : EcF K mg E "FacerError" E.fe [0, 1]
  feM : MkT P w K mg E.fe
  nkF : EcF K mg E "NoKinds" E.nk [0, 1, 2]
  nkM : MkE P w K mg E.nk ["what", "who"] okTwo (sh2 "what" "who")
  nkX : XfC K E.nk
  nkN0 : PySem.W.findIn K (.ref E.nk) "what" = some none
  nkN1 : PySem.W.findIn K (.ref E.nk) "who" = some none
  nwF : EcF K mg E "NoWeb" E.nw [0, 1, 3]
  nwM : MkE P w K mg E.nw ["what", "who"] okTwo (sh2 "what" "who")
  nwX : XfC K E.nw
  nwN0 : PySem.W.findIn K (.ref E.nw) "what" = some none
  nwN1 : PySem.W.findIn K (.ref E.nw) "who" = some none
  nbF : EcF K mg E "NoBook" E.nb [0, 1, 4]
  nbM : MkE P w K mg E.nb ["what", "number"] okTwo (sh2 "what" "number")
  nbX : XfC K E.nb
  nbN0 : PySem.W.findIn K (.ref E.nb) "what" = some none
  nbN1 : PySem.W.findIn K (.ref E.nb) "number" = some none
  nhF : EcF K mg E "NoHeap" E.nh [0, 1, 5]
  nhM : MkE P w K mg E.nh ["who"] (fun _ => True) (sh1 "who")
  nhX : XfC K E.nh
  nhN0 : PySem.W.findIn K (.ref E.nh) "who" = some none
  ntF : EcF K mg E "NoText" E.nt [0, 1, 6]
  ntM : MkT P w K mg E.nt
  nxF : EcF K mg E "NoWish" E.nx [0, 1, 7]
  nxM : MkT P w K mg E.nx
  ncF : EcF K mg E "NoCount" E.nc [0, 1, 8]
  ncM : MkT P w K mg E.nc
  nrF : EcF K mg E "NoRow" E.nr [0, 1, 9]
  nrM : MkT P w K mg E.nr
  noF : EcF K mg E "NoOne" E.no [10, 11]
  noM : MkE P w K mg E.no ["who"] (fun _ => True) (sh1 "who")
  noX : XfC K E.no
  noN0 : PySem.W.findIn K (.ref E.no) "who" = some none
  neF : EcF K mg E "NoEnd" E.ne [10, 12]
  neM : MkE P w K mg E.ne ["end"] (fun _ => True) (sh1 "end")
  neX : XfC K E.ne
  neN0 : PySem.W.findIn K (.ref E.ne) "end" = some none
  kiF : EcF K mg E "NoKind" E.ki [10, 13, 14]
  kiM : MkE P w K mg E.ki ["word"] (fun _ => True) (sh1 "word")
  kiX : XfC K E.ki
  kiN0 : PySem.W.findIn K (.ref E.ki) "word" = some none
  ruF : EcF K mg E "NoRule" E.ru [10, 13, 15]
  ruM : MkE P w K mg E.ru ["pair"] (fun _ => True) (sh1 "pair")
  ruX : XfC K E.ru
  ruN0 : PySem.W.findIn K (.ref E.ru) "pair" = some none
  suF : EcF K mg E "NoSuch" E.su [10, 13, 16]
  suM : MkE P w K mg E.su ["who"] (fun _ => True) (sh1 "who")
  suX : XfC K E.su
  suN0 : PySem.W.findIn K (.ref E.su) "who" = some none
  meF : EcF K mg E "NoMeeting" E.me [17, 18]
  meM : MkE P w K mg E.me ["who"] (fun _ => True) (sh1 "who")
  meX : XfC K E.me
  meN0 : PySem.W.findIn K (.ref E.me) "who" = some none
  caF : EcF K mg E "Caused" E.ca [17, 19]
  caM : MkE P w K mg E.ca ["by"] (fun _ => True) (sh1 "by")
  caX : XfC K E.ca
  caN0 : PySem.W.findIn K (.ref E.ca) "by" = some none
  unF : EcF K mg E "Unlike" E.un [17, 20]
  unM : MkT P w K mg E.un
  tmF : EcF K mg E "TooMany" E.tm [21, 22]
  tmM : MkE P w K mg E.tm ["limit"] (fun _ => True) (sh1 "limit")
  tmX : XfC K E.tm
  tmN0 : PySem.W.findIn K (.ref E.tm) "limit" = some none
end
/-! ### what stands under what -/
def IsErr (K : PySem.W.Frag) (E : Errs) (bs : List Bool) (d : Dt) : Prop := ∃ C ns ds, d = .err C ns ds ∧ IsC K C ∧ tests K E C = bs.map some
section
variable {X : Cx} {w : Wd} {ρ : List SV} {μ : Mus} {R : SV → Mus → Prop} {pos : Pos}
theorem de_tValueError (hm : X.mg "ValueError" = none) (h : R (.ty "ValueError") μ) (hg : Gl X "ValueError" := by rfl) : DE X w (.Name "ValueError" pos) ρ μ R := de_tyv hm (by decide +kernel) h hg
theorem de_tLookupError (hm : X.mg "LookupError" = none) (h : R (.ty "LookupError") μ) (hg : Gl X "LookupError" := by rfl) : DE X w (.Name "LookupError" pos) ρ μ R := de_tyv hm (by decide +kernel) h hg
theorem de_tKeyError (hm : X.mg "KeyError" = none) (h : R (.ty "KeyError") μ) (hg : Gl X "KeyError" := by rfl) : DE X w (.Name "KeyError" pos) ρ μ R := de_tyv hm (by decide +kernel) h hg
theorem de_tRuntimeError (hm : X.mg "RuntimeError" = none) (h : R (.ty "RuntimeError") μ) (hg : Gl X "RuntimeError" := by rfl) : DE X w (.Name "RuntimeError" pos) ρ μ R := de_tyv hm (by decide +kernel) h hg
theorem de_tArithmeticError (hm : X.mg "ArithmeticError" = none) (h : R (.ty "ArithmeticError") μ) (hg : Gl X "ArithmeticError" := by rfl) : DE X w (.Name "ArithmeticError" pos) ρ μ R := de_tyv hm (by decide +kernel) h hg
theorem de_tIndexError (hm : X.mg "IndexError" = none) (h : R (.ty "IndexError") μ) (hg : Gl X "IndexError" := by rfl) : DE X w (.Name "IndexError" pos) ρ μ R := de_tyv hm (by decide +kernel) h hg
theorem de_tZeroDivisionError (hm : X.mg "ZeroDivisionError" = none) (h : R (.ty "ZeroDivisionError") μ) (hg : Gl X "ZeroDivisionError" := by rfl) : DE X w (.Name "ZeroDivisionError" pos) ρ μ R := de_tyv hm (by decide +kernel) h hg
theorem de_tIZ {x1 : _} {p1 p2 : Pos} (h1 : X.mg "IndexError" = none) (h2 : X.mg "ZeroDivisionError" = none) (h : R (.tys ["IndexError", "ZeroDivisionError"]) μ) (g1 : Gl X "IndexError" := by rfl) (g2 : Gl X "ZeroDivisionError" := by rfl) (s1 : starEach [.Name "IndexError" p1, .Name "ZeroDivisionError" p2] X.env = (false, eval (.Name "IndexError" p1) X.env) :: starEach [.Name "ZeroDivisionError" p2] X.env := by rfl) (s2 : starEach [.Name "ZeroDivisionError" p2] X.env = (false, eval (.Name "ZeroDivisionError" p2) X.env) :: starEach [] X.env := by rfl) : DE X w (.Tuple [.Name "IndexError" p1, .Name "ZeroDivisionError" p2] x1 pos) ρ μ R :=
  de_tys (da_cons (hs := s1) (de_tIndexError h1 (da_cons (hs := s2) (de_tZeroDivisionError h2 (da_nil ⟨rfl, h⟩) g2)) g1))
end
theorem some_inj : ∀ {l m : List Bool}, l.map some = m.map some → l = m
  | [], [], _ => rfl
  | [], _ :: _, h => by simp at h
  | _ :: _, [], h => by simp at h
  | a :: l, b :: m, h => by
    rw [List.map_cons, List.map_cons] at h
    obtain ⟨h1, h2⟩ := List.cons.inj h
    rw [Option.some.inj h1, some_inj h2]
def spUnder (K : PySem.W.Frag) (E : Errs) : Sp := PSp (fun ds => ∃ d bs, ds = [d] ∧ IsErr K E bs d) fun ds r => ∀ d bs, ds = [d] → IsErr K E bs d → r = .lst (bs.map .bl)
def spStands (K : PySem.W.Frag) (E : Errs) : Sp := PSp (fun ds => ∃ d ps, ds = [d, .lst (ps.map .int)] ∧ IsErr K E (bsOf ps) d) fun _ r => r = .bl true
section
variable {P : Program} {w : World} {K : PySem.W.Frag} {mg : Str → Option Value} {base : Heap}
abbrev sUnder : Stmt := top 23
theorem scUnder : FnScope ["_law_e", "_law_some"] ["_law_e"] (defScope sUnder) := ⟨rfl, rfl, rfl, by decide +kernel, rfl, by decide +kernel, by decide +kernel⟩
set_option hygiene false in
local macro_rules
  | `(tactic| walk_at "dset") => `(tactic| refine ds_set 1 hN ?_)
set_option hygiene false in
local macro_rules
  | `(tactic| walk_at "dca") => `(tactic| first | refine ca_isErr ic (.inr ⟨_, rfl, rfl⟩) (by assumption) ?_ | refine ca_isErr ic (.inl ⟨_, rfl, rfl⟩) (by assumption) ?_ | refine ca_isErrT ic (by assumption) ?_)
set_option hygiene false in
local macro_rules
  | `(tactic| walk_at "dhook") => `(tactic| first | refine de_globC (by assumption) ?_ | ((with_reducible show DE _ _ (Expr.Name "ValueError" _) _ _ _); refine de_tValueError (by assumption) ?_) | ((with_reducible show DE _ _ (Expr.Name "LookupError" _) _ _ _); refine de_tLookupError (by assumption) ?_) | ((with_reducible show DE _ _ (Expr.Name "KeyError" _) _ _ _); refine de_tKeyError (by assumption) ?_) | ((with_reducible show DE _ _ (Expr.Name "RuntimeError" _) _ _ _); refine de_tRuntimeError (by assumption) ?_) | ((with_reducible show DE _ _ (Expr.Name "ArithmeticError" _) _ _ _); refine de_tArithmeticError (by assumption) ?_) | ((with_reducible show DE _ _ (Expr.Name "IndexError" _) _ _ _); refine de_tIndexError (by assumption) ?_) | ((with_reducible show DE _ _ (Expr.Name "ZeroDivisionError" _) _ _ _); refine de_tZeroDivisionError (by assumption) ?_))
set_option hygiene false in
local macro_rules
  | `(tactic| walk_at "dtup") => `(tactic| first | refine de_tIZ (by assumption) (by assumption) ?_ | refine de_tup ?_)
theorem ok_under {E : Errs} {f : Addr} {fd : FuncData} (F : Fun K "_law_under" "_law_under" sUnder f fd) (T : Txt mg) (R : Ers P w K mg E) : FnG P w K mg base 1 f fd ["_law_e"] (spUnder K E) := by
  refine fn_pure F scUnder (fun ds ⟨d, bs, e, _⟩ => by rw [e]; rfl) fun cdv A outer s H hr hg w' ds μ ⟨d, bs, e, C, ns, vs, ed, ic, ht⟩ => ?_
  subst e ed
  obtain ⟨t1, t2, t3, t4, t5, t6, t7, t8, t9, t10, t11, t12, t13, t14, t15, t16, t17, t18, t19, t20, t21⟩ := T
  have g_fe := R.feF.g
  have g_nk := R.nkF.g
  have g_nw := R.nwF.g
  have g_nb := R.nbF.g
  have g_nh := R.nhF.g
  have g_nt := R.ntF.g
  have g_nx := R.nxF.g
  have g_nc := R.ncF.g
  have g_nr := R.nrF.g
  have g_no := R.noF.g
  have g_ne := R.neF.g
  have g_ki := R.kiF.g
  have g_ru := R.ruF.g
  have g_su := R.suF.g
  have g_me := R.meF.g
  have g_ca := R.caF.g
  have g_un := R.unF.g
  have g_tm := R.tmF.g
  have hN : (["_law_e", "_law_some"] : List Str).Nodup := by decide +kernel
  have hl : bs.length = 24 := by
    have z := congrArg List.length ht
    simpa [tests, cvs] using z.symm
  obtain ⟨b0, b1, b2, b3, b4, b5, b6, b7, b8, b9, b10, b11, b12, b13, b14, b15, b16, b17, b18, b19, b20, b21, b22, b23, rfl⟩ : ∃ b0 b1 b2 b3 b4 b5 b6 b7 b8 b9 b10 b11 b12 b13 b14 b15 b16 b17 b18 b19 b20 b21 b22 b23 : Bool, bs = [b0, b1, b2, b3, b4, b5, b6, b7, b8, b9, b10, b11, b12, b13, b14, b15, b16, b17, b18, b19, b20, b21, b22, b23] := by
    match bs, hl with
    | [b0, b1, b2, b3, b4, b5, b6, b7, b8, b9, b10, b11, b12, b13, b14, b15, b16, b17, b18, b19, b20, b21, b22, b23], _ => exact ⟨b0, b1, b2, b3, b4, b5, b6, b7, b8, b9, b10, b11, b12, b13, b14, b15, b16, b17, b18, b19, b20, b21, b22, b23, rfl⟩
  have ht0 := ht
  simp only [tests, cvs, List.map_cons, List.map_nil, List.cons_append, List.nil_append, List.cons.injEq, and_true] at ht
  obtain ⟨h0, h1, h2, h3, h4, h5, h6, h7, h8, h9, h10, h11, h12, h13, h14, h15, h16, h17, h18, h19, h20, h21, h22, h23⟩ := ht
  have fin : SV.dat (Dt.lst [.bl b0, .bl b1, .bl b2, .bl b3, .bl b4, .bl b5, .bl b6, .bl b7, .bl b8, .bl b9, .bl b10, .bl b11, .bl b12, .bl b13, .bl b14, .bl b15, .bl b16, .bl b17, .bl b18, .bl b19, .bl b20, .bl b21, .bl b22, .bl b23])  = SV.dat (Dt.lst [.bl b0, .bl b1, .bl b2, .bl b3, .bl b4, .bl b5, .bl b6, .bl b7, .bl b8, .bl b9, .bl b10, .bl b11, .bl b12, .bl b13, .bl b14, .bl b15, .bl b16, .bl b17, .bl b18, .bl b19, .bl b20, .bl b21, .bl b22, .bl b23]) := rfl
  refine dss_cons ?_
  walk_at "drun"
  iterate 6 (refine op_addL (.inl rfl) (.inl rfl) ?_ ?_; (focus exact small_ok (Nat.le_of_ble_eq_true rfl)); walk_at "drun")
  refine ⟨_, rfl, fun d1 bs e1 z => ?_, Mus.Sub.refl _⟩
  cases e1
  obtain ⟨C', n', v', e2, _, z⟩ := z
  cases e2
  have e3 := some_inj (ht0.symm.trans z)
  subst e3
  rfl
end
end K19

set_option Elab.async false
set_option linter.all false
set_option maxRecDepth 100000
set_option maxHeartbeats 4000000
namespace K19
open PySem PySem.Spec PyProof.Rows L2 Dat Er
local macro_rules
  | `(tactic| walk_at "down") => `(tactic| fail "none")
local macro_rules
  | `(tactic| walk_at "dset") => `(tactic| fail "none")
local macro_rules
  | `(tactic| walk_at "dhook") => `(tactic| fail "none")
local macro_rules
  | `(tactic| walk_at "dca") => `(tactic| fail "none")
local macro_rules
  | `(tactic| walk_at "dlst") => `(tactic| refine de_lst ?_)
local macro_rules
  | `(tactic| walk_at "dtup") => `(tactic| refine de_tup ?_)
local macro_rules
  | `(tactic| walk_at "dstep") => `(tactic| first
    | ((with_reducible show DE _ _ _ _ _ _); first | ((with_reducible show DE _ _ (Expr.Name _ _) _ _ _); first | ((with_reducible show DE _ _ (Expr.Name "int" _) _ _ _); refine de_ty_int (by assumption) ?_) | ((with_reducible show DE _ _ (Expr.Name "str" _) _ _ _); refine de_ty_str (by assumption) ?_) | ((with_reducible show DE _ _ (Expr.Name "bool" _) _ _ _); refine de_ty_bool (by assumption) ?_) | ((with_reducible show DE _ _ (Expr.Name "tuple" _) _ _ _); refine de_ty_tuple (by assumption) ?_) | ((with_reducible show DE _ _ (Expr.Name "list" _) _ _ _); refine de_ty_list (by assumption) ?_) | ((with_reducible show DE _ _ (Expr.Name "dict" _) _ _ _); refine de_ty_dict (by assumption) ?_) | refine de_nm rfl ?_ | refine de_globI (by assumption) ?_) | ((with_reducible show DE _ _ (Expr.Constant _ _ _) _ _ _); first | refine de_int ?_ | refine de_str ?_ | refine de_bl ?_ | refine de_non ?_) | ((with_reducible show DE _ _ (Expr.Call (Expr.Name _ _) _ _ _) _ _ _); first | ((with_reducible show DE _ _ (Expr.Call (Expr.Name "isinstance" _) _ _ _) _ _ _); refine de_isinstance ?_ (by assumption)) | ((with_reducible show DE _ _ (Expr.Call (Expr.Name "len" _) _ _ _) _ _ _); refine de_len ?_ (by assumption)) | ((with_reducible show DE _ _ (Expr.Call (Expr.Name "max" _) _ _ _) _ _ _); refine de_max ?_ (by assumption)) | ((with_reducible show DE _ _ (Expr.Call (Expr.Name "min" _) _ _ _) _ _ _); refine de_min ?_ (by assumption)) | ((with_reducible show DE _ _ (Expr.Call (Expr.Name "all" _) _ _ _) _ _ _); refine de_all ?_ (by assumption)) | ((with_reducible show DE _ _ (Expr.Call (Expr.Name "repr" _) _ _ _) _ _ _); refine de_repr ?_ (by assumption)) | ((with_reducible show DE _ _ (Expr.Call (Expr.Name "divmod" _) _ _ _) _ _ _); refine de_divmod ?_ (by assumption)) | ((with_reducible show DE _ _ (Expr.Call (Expr.Name "list" _) _ _ _) _ _ _); refine de_clist ?_ (by assumption)) | ((with_reducible show DE _ _ (Expr.Call (Expr.Name "tuple" _) _ _ _) _ _ _); refine de_ctuple ?_ (by assumption)) | ((with_reducible show DE _ _ (Expr.Call (Expr.Name "int" _) _ _ _) _ _ _); refine de_cint ?_ (by assumption)) | ((with_reducible show DE _ _ (Expr.Call (Expr.Name "str" _) _ _ _) _ _ _); refine de_cstr ?_ (by assumption)) | walk_at "down") | ((with_reducible show DE _ _ (Expr.BinOp _ _ _ _) _ _ _); refine de_op ?_) | ((with_reducible show DE _ _ (Expr.Compare _ [_] _ _) _ _ _); refine de_cmp ?_) | ((with_reducible show DE _ _ (Expr.Compare _ [_, _] _ _) _ _ _); refine de_chain ?_) | ((with_reducible show DE _ _ (Expr.Subscript _ (Expr.Slice _ _ _ _) _) _ _ _); refine de_slice ?_) | ((with_reducible show DE _ _ (Expr.Subscript _ _ _) _ _ _); refine de_ix ?_) | ((with_reducible show DE _ _ (Expr.BoolOp _ [_] _) _ _ _); refine de_one ?_) | ((with_reducible show DE _ _ (Expr.BoolOp BoolOp.And _ _) _ _ _); refine de_and ?_) | ((with_reducible show DE _ _ (Expr.BoolOp BoolOp.Or _ _) _ _ _); refine de_or ?_) | ((with_reducible show DE _ _ (Expr.UnaryOp UnaryOp.Not _ _) _ _ _); refine de_not ?_) | ((with_reducible show DE _ _ (Expr.UnaryOp _ _ _) _ _ _); refine de_un ?_) | ((with_reducible show DE _ _ (Expr.IfExp _ _ _ _) _ _ _); refine de_ifx ?_) | ((with_reducible show DE _ _ (Expr.Tuple _ _ _) _ _ _); walk_at "dtup") | ((with_reducible show DE _ _ (Expr.List _ _) _ _ _); walk_at "dlst") | ((with_reducible show DE _ _ (Expr.Dict [] [] _) _ _ _); refine de_dict0 ?_) | walk_at "dhook")
    | ((with_reducible show DA _ _ _ _ _ _); first | ((with_reducible show DA _ _ [] _ _ _); refine da_nil ?_) | ((with_reducible show DA _ _ (_ :: _) _ _ _); refine da_cons ?_))
    | ((with_reducible show BoolR _ _); refine ⟨_, rfl, ?_⟩)
    | ((with_reducible show (_ = true → _) ∧ (_ = false → _)); (refine ⟨fun h => ?_, fun h => ?_⟩ <;> try (exact Bool.noConfusion h)))
    | ((with_reducible show OpD _ _ _ _ _ _ _); first | ((with_reducible show OpD _ _ (binaryOp Operator.Add) _ _ _ _); first | refine op_addI ?_ | refine op_addT ?_) | ((with_reducible show OpD _ _ (binaryOp Operator.Sub) _ _ _ _); refine op_subI ?_) | ((with_reducible show OpD _ _ (binaryOp Operator.Mod) _ _ _ _); refine op_modI (by first | decide | assumption) ?_) | ((with_reducible show OpD _ _ (binaryOp Operator.Mult) _ _ _ _); refine op_mulI (by first | exact .inr (by decide) | exact .inl (by decide) | (exact .inl (by omega))) ?_) | ((with_reducible show OpD _ _ (binaryOp Operator.Pow) _ _ _ _); refine op_powI (by decide) (by decide) (by decide) ?_) | ((with_reducible show OpD _ _ (binaryOp Operator.FloorDiv) _ _ _ _); refine op_fdivI (by decide) (by decide) ?_) | ((with_reducible show OpD _ _ (compareOp CmpOp.Lt) _ _ _ _); refine op_ltI ?_) | ((with_reducible show OpD _ _ (compareOp CmpOp.LtE) _ _ _ _); first | refine op_leI ?_ | refine op_leS ?_) | ((with_reducible show OpD _ _ (compareOp CmpOp.Gt) _ _ _ _); refine op_gtI ?_) | ((with_reducible show OpD _ _ (compareOp CmpOp.GtE) _ _ _ _); refine op_geI ?_) | ((with_reducible show OpD _ _ (compareOp CmpOp.Eq) _ _ _ _); first | refine op_eqI ?_ | refine op_eqS ?_) | ((with_reducible show OpD _ _ (compareOp CmpOp.NotEq) _ _ _ _); first | refine op_neI ?_ | refine op_neS ?_))
    | ((with_reducible show CaD _ _ _ _ _ _); first | ((with_reducible show CaD _ _ (Value.builtin "isinstance") [_, SV.ty "int"] _ _); refine ca_isi (by assumption) (kit_int _ (by assumption)) ?_) | ((with_reducible show CaD _ _ (Value.builtin "isinstance") [_, SV.ty "bool"] _ _); refine ca_isi (by assumption) (kit_bool _ (by assumption)) ?_) | ((with_reducible show CaD _ _ (Value.builtin "isinstance") [_, SV.ty "str"] _ _); refine ca_isi (by assumption) (kit_str _ (by assumption)) ?_) | ((with_reducible show CaD _ _ (Value.builtin "isinstance") [_, SV.ty "tuple"] _ _); refine ca_isi (by assumption) (kit_tuple _ (by assumption)) ?_) | ((with_reducible show CaD _ _ (Value.builtin "isinstance") [_, SV.ty "list"] _ _); refine ca_isi (by assumption) (kit_list _ (by assumption)) ?_) | ((with_reducible show CaD _ _ (Value.builtin "isinstance") [_, SV.ty "dict"] _ _); refine ca_isi (by assumption) (kit_dict _ (by assumption)) ?_) | ((with_reducible show CaD _ _ (Value.builtin "max") _ _ _); refine ca_max2 rfl ?_) | ((with_reducible show CaD _ _ (Value.builtin "min") _ _ _); refine ca_min2 rfl ?_) | ((with_reducible show CaD _ _ (Value.builtin "len") _ _ _); first | refine ca_lenT ?_ | refine ca_lenS (by assumption) ?_ | refine ca_lenSc ?_ | refine ca_lenL (.inl rfl) ?_) | ((with_reducible show CaD _ _ (Value.type "list") _ _ _); refine ca_listT ?_) | ((with_reducible show CaD _ _ (Value.builtin "divmod") _ _ _); refine ca_divmod (by assumption) (by omega) ?_) | walk_at "dca")
    | ((with_reducible show DT _ _ _ _ _ _); first | ((with_reducible show DT _ _ (Expr.BoolOp _ _ _) _ _ _); refine dt_w ?_) | ((with_reducible show DT _ _ (Expr.UnaryOp UnaryOp.Not _ _) _ _ _); refine dt_not ?_) | ((with_reducible show DT _ _ (Expr.Compare _ [_] _ _) _ _ _); refine dt_cmp ?_) | ((with_reducible show DT _ _ (Expr.Compare _ [_, _] _ _) _ _ _); refine dt_chain ?_) | refine dt_val ?_)
    | ((with_reducible show DW _ _ _ _ _ _); first | ((with_reducible show DW _ _ (Expr.BoolOp BoolOp.And [_] _) _ _ _); refine dw_and1 ?_) | ((with_reducible show DW _ _ (Expr.BoolOp BoolOp.Or [_] _) _ _ _); refine dw_or1 ?_) | ((with_reducible show DW _ _ (Expr.BoolOp BoolOp.And _ _) _ _ _); refine dw_and ?_) | ((with_reducible show DW _ _ (Expr.BoolOp BoolOp.Or _ _) _ _ _); refine dw_or ?_))
    | ((with_reducible show DSs _ _ _ _ _ _); first | ((with_reducible show DSs _ _ [] _ _ _); refine dss_nil ?_) | ((with_reducible show DSs _ _ [_] _ _ _); refine dss_one ?_) | ((with_reducible show DSs _ _ (_ :: _) _ _ _); refine dss_cons ?_))
    | ((with_reducible show DS _ _ _ _ _ _); first | ((with_reducible show DS _ _ (Stmt.Return (some _) _) _ _ _); refine ds_ret ?_) | ((with_reducible show DS _ _ (Stmt.If _ _ _ _) _ _ _); refine ds_if ?_) | ((with_reducible show DS _ _ (Stmt.Expr _ _) _ _ _); refine ds_expr ?_) | ((with_reducible show DS _ _ (Stmt.Assign [Expr.Name _ _] _ _) _ _ _); walk_at "dset"))
    | ((with_reducible show DP _ _ none _ _ _); refine dp_none ?_)
    | ((with_reducible show DP _ _ (some _) _ _ _); refine dp_some ?_)
    | ((with_reducible show ∃ d, SV.dat _ = SV.dat d ∧ Fi d ∧ _); refine ⟨_, rfl, by assumption, ?_⟩)
    | ((with_reducible show ∃ i, SV.dat (Dt.int _) = SV.dat (Dt.int i) ∧ _); refine ⟨_, rfl, ?_⟩)
    | ((with_reducible show SlD _ _ (SV.dat (Dt.tup _)) _ _ _ _); refine sl_dT ?_)
    | ((with_reducible show ∃ ds, undat _ = some ds ∧ ds.length ≤ 1000 ∧ _); refine ⟨_, rfl, Nat.le_of_ble_eq_true rfl, ?_⟩)
    | ((with_reducible show ∃ q, SV.at _ = SV.at q ∧ _); refine ⟨_, rfl, ?_⟩)
    | ((with_reducible show ∃ z, SV.dat (Dt.str _) = SV.dat (Dt.str z) ∧ _); refine ⟨_, rfl, ?_⟩)
    | ((with_reducible show IxD _ _ (SV.at _) (SV.dat (Dt.int 0)) _ _); refine ix_pot0 (by assumption) (fun _ _ => ?_))
    | ((with_reducible show IxD _ _ (SV.at _) (SV.dat (Dt.int 1)) _ _); refine ix_pot1 (by assumption) (fun _ _ _ => ?_))
    | ((with_reducible show UnD _ _ (unaryOp UnaryOp.USub) _ _ _); refine un_negI ?_)
    | ((with_reducible show Po.nx _ _ _); dsimp only)
    | ((with_reducible show Po.rt _ _ _); dsimp only))
local macro_rules
  | `(tactic| walk_at "drun") => `(tactic| repeat' (walk_at "dstep"))

theorem eqv_bls (bs : List Bool) : PyData.eqv (toPy (.lst (bs.map .bl))) (toPy (.lst (bs.map .bl))) = true := by
  refine SeqAt.eqv_refl_plain _ ?_
  rw [toPy]
  show PyData.plainAll (toPyA (bs.map .bl)) = true
  induction bs with
  | nil => rfl
  | cons b bs ih => rw [List.map_cons, toPyA, PyData.plainAll, ih]; rfl
theorem noDic_bls (bs : List Bool) : noDic (.lst (bs.map .bl)) = true := by
  show noDicA (bs.map .bl) = true
  induction bs with
  | nil => rfl
  | cons b bs ih => rw [List.map_cons, noDicA, ih]; rfl
theorem upto_mem {n : Nat} {d : Dt} (h : d ∈ upto 0 n) : ∃ k : Nat, k < n ∧ d = .int (0 + (k : Int)) := by
  unfold upto at h
  obtain ⟨k, hk, e⟩ := List.mem_map.mp h
  exact ⟨k, List.mem_range.mp hk, e.symm⟩
section
variable {P : Program} {w : World} {K : PySem.W.Frag} {mg : Str → Option Value} {base : Heap}
abbrev sStands : Stmt := top 24
theorem scStands : FnScope ["_law_e", "_law_places", "_law_k"] ["_law_e", "_law_places"] (defScope sStands) := ⟨rfl, rfl, rfl, by decide +kernel, rfl, by decide +kernel, by decide +kernel⟩
set_option hygiene false in
local macro_rules
  | `(tactic| walk_at "down") => `(tactic| first | ((with_reducible show DE _ _ (Expr.Call (Expr.Name "_law_under" _) _ _ _) _ _ _); refine de_pure oUnder hr (by decide) hg ?_))
theorem ok_stands {E : Errs} {f : Addr} {fd : FuncData} (F : Fun K "_law_stands" "_law_stands" sStands f fd) (T : Txt mg) (oUnder : Own P w K mg base "_law_under" 1 (spUnder K E)) : FnG P w K mg base 2 f fd ["_law_e", "_law_places"] (spStands K E) := by
  refine fn_pure F scStands (fun ds ⟨d, ps, e, _⟩ => by rw [e]; rfl) fun cdv A outer s H hr hg w' ds μ ⟨d, ps, e, hd⟩ => ?_
  subst e
  obtain ⟨t1, t2, t3, t4, t5, t6, t7, t8, t9, t10, t11, t12, t13, t14, t15, t16, t17, t18, t19, t20, t21⟩ := T
  have hN : (["_law_e", "_law_places", "_law_k"] : List Str).Nodup := by decide +kernel
  refine dss_one ?_
  walk_at "drun"
  refine ⟨_, rfl, ⟨d, _, rfl, hd⟩, fun d1 h1 => ?_⟩
  have e1 := h1 d _ rfl hd
  subst e1
  refine de_lc 2 rfl hN (blkOk_by (N := ["_law_e", "_law_places", "_law_k"]) (sc := defScope sStands) (by decide +kernel)) ?_
  refine di_range1 ?_ t12
  walk_at "drun"
  refine ⟨_, rfl, by decide, by decide, ?_⟩
  refine lc_map (fun i => match i with | .int i => .bl (decide (i ∈ ps)) | _ => .non) (by decide) (fun i hi w2 k => ?_) ?_
  · obtain ⟨n, hn, rfl⟩ := upto_mem hi
    walk_at "drun"
    exact op_inInt (.inl rfl) ⟨rfl, rfl⟩
  · have em : (upto 0 (24 : Int).toNat).map (fun i => match i with | .int i => Dt.bl (decide (i ∈ ps)) | _ => .non) = (bsOf ps).map .bl := by
      unfold upto bsOf
      rw [List.map_map, List.map_map]
      refine List.map_congr_left fun n _ => ?_
      simp
    rw [em]
    refine op_eqDt hr (noDic_bls _) (noDic_bls _) ?_ ?_ ?_
    · rfl
    · rfl
    · rw [eqv_bls]
      exact ⟨_, rfl, rfl, Mus.Sub.refl _⟩
end
end K19

set_option Elab.async false
set_option linter.all false
set_option maxRecDepth 100000
set_option maxHeartbeats 4000000
namespace K19
open PySem PySem.Spec PyProof.Rows L2 Dat Er
local macro_rules
  | `(tactic| walk_at "down") => `(tactic| fail "none")
local macro_rules
  | `(tactic| walk_at "dset") => `(tactic| fail "none")
local macro_rules
  | `(tactic| walk_at "dhook") => `(tactic| fail "none")
local macro_rules
  | `(tactic| walk_at "dca") => `(tactic| fail "none")
local macro_rules
  | `(tactic| walk_at "dlst") => `(tactic| refine de_lst ?_)
local macro_rules
  | `(tactic| walk_at "dtup") => `(tactic| refine de_tup ?_)
local macro_rules
  | `(tactic| walk_at "dstep") => `(tactic| first
    | ((with_reducible show DE _ _ _ _ _ _); first | ((with_reducible show DE _ _ (Expr.Name _ _) _ _ _); first | ((with_reducible show DE _ _ (Expr.Name "int" _) _ _ _); refine de_ty_int (by assumption) ?_) | ((with_reducible show DE _ _ (Expr.Name "str" _) _ _ _); refine de_ty_str (by assumption) ?_) | ((with_reducible show DE _ _ (Expr.Name "bool" _) _ _ _); refine de_ty_bool (by assumption) ?_) | ((with_reducible show DE _ _ (Expr.Name "tuple" _) _ _ _); refine de_ty_tuple (by assumption) ?_) | ((with_reducible show DE _ _ (Expr.Name "list" _) _ _ _); refine de_ty_list (by assumption) ?_) | ((with_reducible show DE _ _ (Expr.Name "dict" _) _ _ _); refine de_ty_dict (by assumption) ?_) | refine de_nm rfl ?_ | refine de_globI (by assumption) ?_) | ((with_reducible show DE _ _ (Expr.Constant _ _ _) _ _ _); first | refine de_int ?_ | refine de_str ?_ | refine de_bl ?_ | refine de_non ?_) | ((with_reducible show DE _ _ (Expr.Call (Expr.Name _ _) _ _ _) _ _ _); first | ((with_reducible show DE _ _ (Expr.Call (Expr.Name "isinstance" _) _ _ _) _ _ _); refine de_isinstance ?_ (by assumption)) | ((with_reducible show DE _ _ (Expr.Call (Expr.Name "len" _) _ _ _) _ _ _); refine de_len ?_ (by assumption)) | ((with_reducible show DE _ _ (Expr.Call (Expr.Name "max" _) _ _ _) _ _ _); refine de_max ?_ (by assumption)) | ((with_reducible show DE _ _ (Expr.Call (Expr.Name "min" _) _ _ _) _ _ _); refine de_min ?_ (by assumption)) | ((with_reducible show DE _ _ (Expr.Call (Expr.Name "all" _) _ _ _) _ _ _); refine de_all ?_ (by assumption)) | ((with_reducible show DE _ _ (Expr.Call (Expr.Name "repr" _) _ _ _) _ _ _); refine de_repr ?_ (by assumption)) | ((with_reducible show DE _ _ (Expr.Call (Expr.Name "divmod" _) _ _ _) _ _ _); refine de_divmod ?_ (by assumption)) | ((with_reducible show DE _ _ (Expr.Call (Expr.Name "list" _) _ _ _) _ _ _); refine de_clist ?_ (by assumption)) | ((with_reducible show DE _ _ (Expr.Call (Expr.Name "tuple" _) _ _ _) _ _ _); refine de_ctuple ?_ (by assumption)) | ((with_reducible show DE _ _ (Expr.Call (Expr.Name "int" _) _ _ _) _ _ _); refine de_cint ?_ (by assumption)) | ((with_reducible show DE _ _ (Expr.Call (Expr.Name "str" _) _ _ _) _ _ _); refine de_cstr ?_ (by assumption)) | walk_at "down") | ((with_reducible show DE _ _ (Expr.BinOp _ _ _ _) _ _ _); refine de_op ?_) | ((with_reducible show DE _ _ (Expr.Compare _ [_] _ _) _ _ _); refine de_cmp ?_) | ((with_reducible show DE _ _ (Expr.Compare _ [_, _] _ _) _ _ _); refine de_chain ?_) | ((with_reducible show DE _ _ (Expr.Subscript _ (Expr.Slice _ _ _ _) _) _ _ _); refine de_slice ?_) | ((with_reducible show DE _ _ (Expr.Subscript _ _ _) _ _ _); refine de_ix ?_) | ((with_reducible show DE _ _ (Expr.BoolOp _ [_] _) _ _ _); refine de_one ?_) | ((with_reducible show DE _ _ (Expr.BoolOp BoolOp.And _ _) _ _ _); refine de_and ?_) | ((with_reducible show DE _ _ (Expr.BoolOp BoolOp.Or _ _) _ _ _); refine de_or ?_) | ((with_reducible show DE _ _ (Expr.UnaryOp UnaryOp.Not _ _) _ _ _); refine de_not ?_) | ((with_reducible show DE _ _ (Expr.UnaryOp _ _ _) _ _ _); refine de_un ?_) | ((with_reducible show DE _ _ (Expr.IfExp _ _ _ _) _ _ _); refine de_ifx ?_) | ((with_reducible show DE _ _ (Expr.Tuple _ _ _) _ _ _); walk_at "dtup") | ((with_reducible show DE _ _ (Expr.List _ _) _ _ _); walk_at "dlst") | ((with_reducible show DE _ _ (Expr.Dict [] [] _) _ _ _); refine de_dict0 ?_) | walk_at "dhook")
    | ((with_reducible show DA _ _ _ _ _ _); first | ((with_reducible show DA _ _ [] _ _ _); refine da_nil ?_) | ((with_reducible show DA _ _ (_ :: _) _ _ _); refine da_cons ?_))
    | ((with_reducible show BoolR _ _); refine ⟨_, rfl, ?_⟩)
    | ((with_reducible show (_ = true → _) ∧ (_ = false → _)); (refine ⟨fun h => ?_, fun h => ?_⟩ <;> try (exact Bool.noConfusion h)))
    | ((with_reducible show OpD _ _ _ _ _ _ _); first | ((with_reducible show OpD _ _ (binaryOp Operator.Add) _ _ _ _); first | refine op_addI ?_ | refine op_addT ?_) | ((with_reducible show OpD _ _ (binaryOp Operator.Sub) _ _ _ _); refine op_subI ?_) | ((with_reducible show OpD _ _ (binaryOp Operator.Mod) _ _ _ _); refine op_modI (by first | decide | assumption) ?_) | ((with_reducible show OpD _ _ (binaryOp Operator.Mult) _ _ _ _); refine op_mulI (by first | exact .inr (by decide) | exact .inl (by decide) | (exact .inl (by omega))) ?_) | ((with_reducible show OpD _ _ (binaryOp Operator.Pow) _ _ _ _); refine op_powI (by decide) (by decide) (by decide) ?_) | ((with_reducible show OpD _ _ (binaryOp Operator.FloorDiv) _ _ _ _); refine op_fdivI (by decide) (by decide) ?_) | ((with_reducible show OpD _ _ (compareOp CmpOp.Lt) _ _ _ _); refine op_ltI ?_) | ((with_reducible show OpD _ _ (compareOp CmpOp.LtE) _ _ _ _); first | refine op_leI ?_ | refine op_leS ?_) | ((with_reducible show OpD _ _ (compareOp CmpOp.Gt) _ _ _ _); refine op_gtI ?_) | ((with_reducible show OpD _ _ (compareOp CmpOp.GtE) _ _ _ _); refine op_geI ?_) | ((with_reducible show OpD _ _ (compareOp CmpOp.Eq) _ _ _ _); first | refine op_eqI ?_ | refine op_eqS ?_) | ((with_reducible show OpD _ _ (compareOp CmpOp.NotEq) _ _ _ _); first | refine op_neI ?_ | refine op_neS ?_))
    | ((with_reducible show CaD _ _ _ _ _ _); first | ((with_reducible show CaD _ _ (Value.builtin "isinstance") [_, SV.ty "int"] _ _); refine ca_isi (by assumption) (kit_int _ (by assumption)) ?_) | ((with_reducible show CaD _ _ (Value.builtin "isinstance") [_, SV.ty "bool"] _ _); refine ca_isi (by assumption) (kit_bool _ (by assumption)) ?_) | ((with_reducible show CaD _ _ (Value.builtin "isinstance") [_, SV.ty "str"] _ _); refine ca_isi (by assumption) (kit_str _ (by assumption)) ?_) | ((with_reducible show CaD _ _ (Value.builtin "isinstance") [_, SV.ty "tuple"] _ _); refine ca_isi (by assumption) (kit_tuple _ (by assumption)) ?_) | ((with_reducible show CaD _ _ (Value.builtin "isinstance") [_, SV.ty "list"] _ _); refine ca_isi (by assumption) (kit_list _ (by assumption)) ?_) | ((with_reducible show CaD _ _ (Value.builtin "isinstance") [_, SV.ty "dict"] _ _); refine ca_isi (by assumption) (kit_dict _ (by assumption)) ?_) | ((with_reducible show CaD _ _ (Value.builtin "max") _ _ _); refine ca_max2 rfl ?_) | ((with_reducible show CaD _ _ (Value.builtin "min") _ _ _); refine ca_min2 rfl ?_) | ((with_reducible show CaD _ _ (Value.builtin "len") _ _ _); first | refine ca_lenT ?_ | refine ca_lenS (by assumption) ?_ | refine ca_lenSc ?_ | refine ca_lenL (.inl rfl) ?_) | ((with_reducible show CaD _ _ (Value.type "list") _ _ _); refine ca_listT ?_) | ((with_reducible show CaD _ _ (Value.builtin "divmod") _ _ _); refine ca_divmod (by assumption) (by omega) ?_) | walk_at "dca")
    | ((with_reducible show DT _ _ _ _ _ _); first | ((with_reducible show DT _ _ (Expr.BoolOp _ _ _) _ _ _); refine dt_w ?_) | ((with_reducible show DT _ _ (Expr.UnaryOp UnaryOp.Not _ _) _ _ _); refine dt_not ?_) | ((with_reducible show DT _ _ (Expr.Compare _ [_] _ _) _ _ _); refine dt_cmp ?_) | ((with_reducible show DT _ _ (Expr.Compare _ [_, _] _ _) _ _ _); refine dt_chain ?_) | refine dt_val ?_)
    | ((with_reducible show DW _ _ _ _ _ _); first | ((with_reducible show DW _ _ (Expr.BoolOp BoolOp.And [_] _) _ _ _); refine dw_and1 ?_) | ((with_reducible show DW _ _ (Expr.BoolOp BoolOp.Or [_] _) _ _ _); refine dw_or1 ?_) | ((with_reducible show DW _ _ (Expr.BoolOp BoolOp.And _ _) _ _ _); refine dw_and ?_) | ((with_reducible show DW _ _ (Expr.BoolOp BoolOp.Or _ _) _ _ _); refine dw_or ?_))
    | ((with_reducible show DSs _ _ _ _ _ _); first | ((with_reducible show DSs _ _ [] _ _ _); refine dss_nil ?_) | ((with_reducible show DSs _ _ [_] _ _ _); refine dss_one ?_) | ((with_reducible show DSs _ _ (_ :: _) _ _ _); refine dss_cons ?_))
    | ((with_reducible show DS _ _ _ _ _ _); first | ((with_reducible show DS _ _ (Stmt.Return (some _) _) _ _ _); refine ds_ret ?_) | ((with_reducible show DS _ _ (Stmt.If _ _ _ _) _ _ _); refine ds_if ?_) | ((with_reducible show DS _ _ (Stmt.Expr _ _) _ _ _); refine ds_expr ?_) | ((with_reducible show DS _ _ (Stmt.Assign [Expr.Name _ _] _ _) _ _ _); walk_at "dset"))
    | ((with_reducible show DP _ _ none _ _ _); refine dp_none ?_)
    | ((with_reducible show DP _ _ (some _) _ _ _); refine dp_some ?_)
    | ((with_reducible show ∃ d, SV.dat _ = SV.dat d ∧ Fi d ∧ _); refine ⟨_, rfl, by assumption, ?_⟩)
    | ((with_reducible show ∃ i, SV.dat (Dt.int _) = SV.dat (Dt.int i) ∧ _); refine ⟨_, rfl, ?_⟩)
    | ((with_reducible show SlD _ _ (SV.dat (Dt.tup _)) _ _ _ _); refine sl_dT ?_)
    | ((with_reducible show ∃ ds, undat _ = some ds ∧ ds.length ≤ 1000 ∧ _); refine ⟨_, rfl, Nat.le_of_ble_eq_true rfl, ?_⟩)
    | ((with_reducible show ∃ q, SV.at _ = SV.at q ∧ _); refine ⟨_, rfl, ?_⟩)
    | ((with_reducible show ∃ z, SV.dat (Dt.str _) = SV.dat (Dt.str z) ∧ _); refine ⟨_, rfl, ?_⟩)
    | ((with_reducible show IxD _ _ (SV.at _) (SV.dat (Dt.int 0)) _ _); refine ix_pot0 (by assumption) (fun _ _ => ?_))
    | ((with_reducible show IxD _ _ (SV.at _) (SV.dat (Dt.int 1)) _ _); refine ix_pot1 (by assumption) (fun _ _ _ => ?_))
    | ((with_reducible show UnD _ _ (unaryOp UnaryOp.USub) _ _ _); refine un_negI ?_)
    | ((with_reducible show Po.nx _ _ _); dsimp only)
    | ((with_reducible show Po.rt _ _ _); dsimp only))
local macro_rules
  | `(tactic| walk_at "drun") => `(tactic| repeat' (walk_at "dstep"))

/-- what the law hands in as fields -/
def Fld (d : Dt) : Prop := fine 9 18 2 d
theorem odd_fmt {d : Dt} (h : Odd d) : FmtOk d := by
  have len := fine_len 2 d h.1
  have le : fineL 9 18 2 ≤ 16000000 := by decide
  refine ⟨fine_shown h.1 (Nat.le_trans le (by decide)) (by decide) h.2, ?_, ?_, Nat.le_trans len le⟩
  · rintro z rfl
    exact Nat.le_trans (show z.length ≤ 9 from h.1.1) (by decide)
  · rintro i rfl
    have e : i.natAbs < 10 ^ 30 := h.1
    have : i.natAbs < 2 ^ 100 := Nat.lt_trans e (by decide)
    have := Nat.log2_lt (n := i.natAbs) (k := 100)
    by_cases z : i.natAbs = 0
    · rw [z]; decide
    · have := (Nat.log2_lt z).mpr ‹i.natAbs < 2 ^ 100›
      omega
def spFields : Sp := PSp (fun ds => ∃ d e, ds = [d, e] ∧ Odd d ∧ Fld e) fun _ r => r = .bl true

theorem shown_rep (k : Nat) (d : Dt) {S M n : Nat} (h : fine S M n d) (hl : k * (fineL S M n + 2) + 2 ≤ 16777216) (hn : n + 1 ≤ 60) : ShownL (.lst (List.replicate k d)) := by
  obtain ⟨h1, h2, h3⟩ := fine_rest n d h
  have of : ∀ {p : Dt → Prop}, p d → ∀ z, z ∈ List.replicate k d → p z := fun {p} hp z hz => by rw [(List.mem_replicate.mp hz).2]; exact hp
  refine ⟨plainAll_of _ (of h3), ?_, ?_, ?_⟩
  · rw [toPy, PyData.showable]
    exact showsAll_of _ (of (p := fun z => (toPy z).showable = true) h1)
  · rw [toPy, PyData.shown, toPyA_map, shownAll_map, List.map_map]
    refine Nat.le_trans (listText_le _) (Nat.le_trans (Nat.add_le_add_right (piled_le (L := fineL S M n) _ fun t ht => ?_) 2) ?_)
    · obtain ⟨z, hz, rfl⟩ := List.mem_map.mp ht
      rw [(List.mem_replicate.mp hz).2]
      exact fine_len n d h
    · rw [List.length_map, List.length_replicate, sizeLine_eq]
      exact hl
  · rw [toPy, PyData.depth]
    have := deepAll_of (n := n) (List.replicate k d) (of (p := fun z => (toPy z).depth ≤ n) h2)
    omega
/-! ### made and read at once -/
section
variable {X : Cx} {w : Wd} {ρ : List SV} {μ : Mus} {R : SV → Mus → Prop} {e1 e2 : Expr} {x f f2 : Str} {p pos p2 k1 k2 : Pos} {C : Addr} {d d2 : Dt}
/-- an expression whose value is known -/
def Kn (X : Cx) (w : Wd) (ρ : List SV) (μ : Mus) (e : Expr) (d : Dt) : Prop := ∀ R' : SV → Mus → Prop, R' (.dat d) μ → DE X w e ρ μ R'
theorem mk2 (M : MkE X.prog X.w X.K X.mg C [f, f2] okTwo (sh2 f f2)) (hr : Room 2 X.A) (hg : X.A.guards = some []) (g : X.mg x = some (.ref C)) (k : PySem.W.keepIn X.K (.ref C) = true) (h1 : Kn X w ρ μ e1 d) (h2 : Kn X w ρ μ e2 d2) (ok : FmtOk d) (h : R (.dat (.err C [f, f2] [d, d2])) μ)
    (hgl : Gl X x := by rfl) (hdb : (x == ("__debug__" : Str)) = false := by decide) (he : starEach [e1, e2] X.env = (false, eval e1 X.env) :: starEach [e2] X.env := by rfl) (he2 : starEach [e2] X.env = (false, eval e2 X.env) :: starEach [] X.env := by rfl) (hpl : (backTo pos (starEach [e2] X.env)).any (·.1) = false := by rfl) :
    DE X w (.Call (.Name x p) [e1, e2] [] pos) ρ μ R :=
  de_err M (fun vs hl => match vs, hl with | [a, b], _ => ⟨a, b, rfl, .inl ⟨rfl, rfl⟩⟩) hr hg g k (da_cons (hs := he) (h1 _ (da_cons (hs := he2) (h2 _ (da_nil ⟨_, rfl, rfl, fun z hz => by cases hz; exact ok, h⟩))))) hgl hdb he hpl
theorem mk2K (M : MkE X.prog X.w X.K X.mg C [f, f2] okTwo (sh2 f f2)) (hr : Room 2 X.A) (hg : X.A.guards = some []) (g : X.mg x = some (.ref C)) (k : PySem.W.keepIn X.K (.ref C) = true) (h1 : Kn X w ρ μ e1 d) (h2 : Kn X w ρ μ e2 d2) (ok : FmtOk d) (h : R (.dat (.err C [f, f2] [d, d2])) μ)
    (hgl : Gl X x := by rfl) (hdb : (x == ("__debug__" : Str)) = false := by decide)
    (hall : (backToKw pos (keywordEach [⟨some f2, e2, k1⟩, ⟨some f, e1, k2⟩] X.env)).all (·.1.isSome) = true := by rfl) (hks : (backToKw pos (keywordEach [⟨some f2, e2, k1⟩, ⟨some f, e1, k2⟩] X.env)).filterMap (·.1) = [f2, f] := by rfl)
    (hpl : ((backTo pos (starEach [] X.env)).any (·.1) || (backToKw pos (keywordEach [⟨some f2, e2, k1⟩, ⟨some f, e1, k2⟩] X.env)).any (·.1.isNone)) = false := by rfl) : DE X w (.Call (.Name x p) [] [⟨some f2, e2, k1⟩, ⟨some f, e1, k2⟩] pos) ρ μ R :=
  de_errK2 M hr hg g k (h2 _ (h1 _ ⟨_, _, rfl, rfl, fun z hz => by cases hz; exact ok, h⟩)) hgl hdb hall hks hpl
theorem mk1 (M : MkE X.prog X.w X.K X.mg C [f] (fun _ => True) (sh1 f)) (hr : Room 2 X.A) (hg : X.A.guards = some []) (g : X.mg x = some (.ref C)) (k : PySem.W.keepIn X.K (.ref C) = true) (h1 : Kn X w ρ μ e1 d) (h : R (.dat (.err C [f] [d])) μ)
    (hgl : Gl X x := by rfl) (hdb : (x == ("__debug__" : Str)) = false := by decide) (he : starEach [e1] X.env = (false, eval e1 X.env) :: starEach [] X.env := by rfl) (hpl : (backTo pos (starEach [] X.env)).any (·.1) = false := by rfl) :
    DE X w (.Call (.Name x p) [e1] [] pos) ρ μ R :=
  de_err M (fun vs hl => match vs, hl with | [a], _ => ⟨a, rfl, .inl ⟨rfl, rfl⟩⟩) hr hg g k (da_cons (hs := he) (h1 _ (da_nil ⟨_, rfl, rfl, trivial, h⟩))) hgl hdb he hpl
theorem mk1K (M : MkE X.prog X.w X.K X.mg C [f] (fun _ => True) (sh1 f)) (hr : Room 2 X.A) (hg : X.A.guards = some []) (g : X.mg x = some (.ref C)) (k : PySem.W.keepIn X.K (.ref C) = true) (h1 : Kn X w ρ μ e1 d) (h : R (.dat (.err C [f] [d])) μ)
    (hgl : Gl X x := by rfl) (hdb : (x == ("__debug__" : Str)) = false := by decide)
    (hall : (backToKw pos (keywordEach [⟨some f, e1, k1⟩] X.env)).all (·.1.isSome) = true := by rfl) (hks : (backToKw pos (keywordEach [⟨some f, e1, k1⟩] X.env)).filterMap (·.1) = [f] := by rfl)
    (hpl : ((backTo pos (starEach [] X.env)).any (·.1) || (backToKw pos (keywordEach [⟨some f, e1, k1⟩] X.env)).any (·.1.isNone)) = false := by rfl) : DE X w (.Call (.Name x p) [] [⟨some f, e1, k1⟩] pos) ρ μ R :=
  de_errK1 M hr hg g k (h1 _ ⟨_, rfl, trivial, h⟩) hgl hdb hall hks hpl
theorem rd1 (M : MkE X.prog X.w X.K X.mg C [f] (fun _ => True) (sh1 f)) (xf : XfC X.K C) (nf : PySem.W.findIn X.K (.ref C) f = some none) (hr : Room 2 X.A) (hg : X.A.guards = some []) (g : X.mg x = some (.ref C)) (k : PySem.W.keepIn X.K (.ref C) = true) (h1 : Kn X w ρ μ e1 d) (h : R (.dat d) μ)
    (hgl : Gl X x := by rfl) (hb : attributeBase (.Call (.Name x p) [e1] [] pos) f X.env (eval (.Call (.Name x p) [e1] [] pos) X.env) = eval (.Call (.Name x p) [e1] [] pos) X.env := by rfl) (hdb : (x == ("__debug__" : Str)) = false := by decide) (he : starEach [e1] X.env = (false, eval e1 X.env) :: starEach [] X.env := by rfl) (hpl : (backTo pos (starEach [] X.env)).any (·.1) = false := by rfl) :
    DE X w (.Attribute (.Call (.Name x p) [e1] [] pos) f p2) ρ μ R := de_efld (mk1 M hr hg g k h1 ⟨_, _, _, _, rfl, xf, nf, by simp [List.lookup], h⟩ hgl hdb he hpl) hb
theorem rd1K (M : MkE X.prog X.w X.K X.mg C [f] (fun _ => True) (sh1 f)) (xf : XfC X.K C) (nf : PySem.W.findIn X.K (.ref C) f = some none) (hr : Room 2 X.A) (hg : X.A.guards = some []) (g : X.mg x = some (.ref C)) (k : PySem.W.keepIn X.K (.ref C) = true) (h1 : Kn X w ρ μ e1 d) (h : R (.dat d) μ)
    (hgl : Gl X x := by rfl) (hb : attributeBase (.Call (.Name x p) [] [⟨some f, e1, k1⟩] pos) f X.env (eval (.Call (.Name x p) [] [⟨some f, e1, k1⟩] pos) X.env) = eval (.Call (.Name x p) [] [⟨some f, e1, k1⟩] pos) X.env := by rfl) (hdb : (x == ("__debug__" : Str)) = false := by decide)
    (hall : (backToKw pos (keywordEach [⟨some f, e1, k1⟩] X.env)).all (·.1.isSome) = true := by rfl) (hks : (backToKw pos (keywordEach [⟨some f, e1, k1⟩] X.env)).filterMap (·.1) = [f] := by rfl)
    (hpl : ((backTo pos (starEach [] X.env)).any (·.1) || (backToKw pos (keywordEach [⟨some f, e1, k1⟩] X.env)).any (·.1.isNone)) = false := by rfl) : DE X w (.Attribute (.Call (.Name x p) [] [⟨some f, e1, k1⟩] pos) f p2) ρ μ R :=
  de_efld (mk1K M hr hg g k h1 ⟨_, _, _, _, rfl, xf, nf, by simp [List.lookup], h⟩ hgl hdb hall hks hpl) hb
end
section
variable {P : Program} {w : World} {K : PySem.W.Frag} {mg : Str → Option Value} {base : Heap}
abbrev sFields : Stmt := top 25
theorem scFields : FnScope ["_law_one", "_law_other", "_law_two", "_law_told", "_law_book", "_law_e"] ["_law_one", "_law_other"] (defScope sFields) := ⟨rfl, rfl, rfl, by decide +kernel, rfl, by decide +kernel, by decide +kernel⟩
set_option hygiene false in
local macro_rules
  | `(tactic| walk_at "down") => `(tactic| first | ((with_reducible show DE _ _ (Expr.Call (Expr.Name "NoKinds" _) [] _ _) _ _ _); refine mk2K R.nkM hr2 hg R.nkF.g R.nkF.k (fun _ z => de_nm rfl z) (fun _ z => de_nm rfl z) ok1 ?_) | ((with_reducible show DE _ _ (Expr.Call (Expr.Name "NoKinds" _) _ [] _) _ _ _); refine mk2 R.nkM hr2 hg R.nkF.g R.nkF.k (fun _ z => de_nm rfl z) (fun _ z => de_nm rfl z) ok1 ?_) | ((with_reducible show DE _ _ (Expr.Call (Expr.Name "NoWeb" _) [] _ _) _ _ _); refine mk2K R.nwM hr2 hg R.nwF.g R.nwF.k (fun _ z => de_nm rfl z) (fun _ z => de_nm rfl z) ok1 ?_) | ((with_reducible show DE _ _ (Expr.Call (Expr.Name "NoWeb" _) _ [] _) _ _ _); refine mk2 R.nwM hr2 hg R.nwF.g R.nwF.k (fun _ z => de_nm rfl z) (fun _ z => de_nm rfl z) ok1 ?_) | ((with_reducible show DE _ _ (Expr.Call (Expr.Name "NoBook" _) [] _ _) _ _ _); refine mk2K R.nbM hr2 hg R.nbF.g R.nbF.k (fun _ z => de_nm rfl z) (fun _ z => de_nm rfl z) ok1 ?_) | ((with_reducible show DE _ _ (Expr.Call (Expr.Name "NoBook" _) _ [] _) _ _ _); refine mk2 R.nbM hr2 hg R.nbF.g R.nbF.k (fun _ z => de_nm rfl z) (fun _ z => de_nm rfl z) ok1 ?_))
set_option hygiene false in
local macro_rules
  | `(tactic| walk_at "dhook") => `(tactic| first | ((with_reducible show DE _ _ (Expr.Attribute (Expr.Call (Expr.Name "NoHeap" _) [] _ _) _ _) _ _ _); refine rd1K R.nhM R.nhX R.nhN0 hr2 hg R.nhF.g R.nhF.k (fun _ z => de_nm rfl z) ?_) | ((with_reducible show DE _ _ (Expr.Attribute (Expr.Call (Expr.Name "NoHeap" _) _ [] _) _ _) _ _ _); refine rd1 R.nhM R.nhX R.nhN0 hr2 hg R.nhF.g R.nhF.k (fun _ z => de_nm rfl z) ?_) | ((with_reducible show DE _ _ (Expr.Attribute (Expr.Call (Expr.Name "NoOne" _) [] _ _) _ _) _ _ _); refine rd1K R.noM R.noX R.noN0 hr2 hg R.noF.g R.noF.k (fun _ z => de_nm rfl z) ?_) | ((with_reducible show DE _ _ (Expr.Attribute (Expr.Call (Expr.Name "NoOne" _) _ [] _) _ _) _ _ _); refine rd1 R.noM R.noX R.noN0 hr2 hg R.noF.g R.noF.k (fun _ z => de_nm rfl z) ?_) | ((with_reducible show DE _ _ (Expr.Attribute (Expr.Call (Expr.Name "NoEnd" _) [] _ _) _ _) _ _ _); refine rd1K R.neM R.neX R.neN0 hr2 hg R.neF.g R.neF.k (fun _ z => de_nm rfl z) ?_) | ((with_reducible show DE _ _ (Expr.Attribute (Expr.Call (Expr.Name "NoEnd" _) _ [] _) _ _) _ _ _); refine rd1 R.neM R.neX R.neN0 hr2 hg R.neF.g R.neF.k (fun _ z => de_nm rfl z) ?_) | ((with_reducible show DE _ _ (Expr.Attribute (Expr.Call (Expr.Name "NoKind" _) [] _ _) _ _) _ _ _); refine rd1K R.kiM R.kiX R.kiN0 hr2 hg R.kiF.g R.kiF.k (fun _ z => de_nm rfl z) ?_) | ((with_reducible show DE _ _ (Expr.Attribute (Expr.Call (Expr.Name "NoKind" _) _ [] _) _ _) _ _ _); refine rd1 R.kiM R.kiX R.kiN0 hr2 hg R.kiF.g R.kiF.k (fun _ z => de_nm rfl z) ?_) | ((with_reducible show DE _ _ (Expr.Attribute (Expr.Call (Expr.Name "NoRule" _) [] _ _) _ _) _ _ _); refine rd1K R.ruM R.ruX R.ruN0 hr2 hg R.ruF.g R.ruF.k (fun _ z => de_nm rfl z) ?_) | ((with_reducible show DE _ _ (Expr.Attribute (Expr.Call (Expr.Name "NoRule" _) _ [] _) _ _) _ _ _); refine rd1 R.ruM R.ruX R.ruN0 hr2 hg R.ruF.g R.ruF.k (fun _ z => de_nm rfl z) ?_) | ((with_reducible show DE _ _ (Expr.Attribute (Expr.Call (Expr.Name "NoSuch" _) [] _ _) _ _) _ _ _); refine rd1K R.suM R.suX R.suN0 hr2 hg R.suF.g R.suF.k (fun _ z => de_nm rfl z) ?_) | ((with_reducible show DE _ _ (Expr.Attribute (Expr.Call (Expr.Name "NoSuch" _) _ [] _) _ _) _ _ _); refine rd1 R.suM R.suX R.suN0 hr2 hg R.suF.g R.suF.k (fun _ z => de_nm rfl z) ?_) | ((with_reducible show DE _ _ (Expr.Attribute (Expr.Call (Expr.Name "NoMeeting" _) [] _ _) _ _) _ _ _); refine rd1K R.meM R.meX R.meN0 hr2 hg R.meF.g R.meF.k (fun _ z => de_nm rfl z) ?_) | ((with_reducible show DE _ _ (Expr.Attribute (Expr.Call (Expr.Name "NoMeeting" _) _ [] _) _ _) _ _ _); refine rd1 R.meM R.meX R.meN0 hr2 hg R.meF.g R.meF.k (fun _ z => de_nm rfl z) ?_) | ((with_reducible show DE _ _ (Expr.Attribute (Expr.Call (Expr.Name "Caused" _) [] _ _) _ _) _ _ _); refine rd1K R.caM R.caX R.caN0 hr2 hg R.caF.g R.caF.k (fun _ z => de_nm rfl z) ?_) | ((with_reducible show DE _ _ (Expr.Attribute (Expr.Call (Expr.Name "Caused" _) _ [] _) _ _) _ _ _); refine rd1 R.caM R.caX R.caN0 hr2 hg R.caF.g R.caF.k (fun _ z => de_nm rfl z) ?_) | ((with_reducible show DE _ _ (Expr.Attribute (Expr.Call (Expr.Name "TooMany" _) [] _ _) _ _) _ _ _); refine rd1K R.tmM R.tmX R.tmN0 hr2 hg R.tmF.g R.tmF.k (fun _ z => de_nm rfl z) ?_) | ((with_reducible show DE _ _ (Expr.Attribute (Expr.Call (Expr.Name "TooMany" _) _ [] _) _ _) _ _ _); refine rd1 R.tmM R.tmX R.tmN0 hr2 hg R.tmF.g R.tmF.k (fun _ z => de_nm rfl z) ?_) | refine de_efld ?_)
theorem ok_fields {E : Errs} {f : Addr} {fd : FuncData} (F : Fun K "_law_fields_right" "_law_fields_right" sFields f fd) (T : Txt mg) (R : Ers P w K mg E) : FnG P w K mg base 4 f fd ["_law_one", "_law_other"] spFields := by
  refine fn_pure F scFields (fun ds ⟨d, e, h, _⟩ => by rw [h]; rfl) fun cdv A outer s H hr hg w' ds μ ⟨d, e, h, hd, he⟩ => ?_
  subst h
  obtain ⟨t1, t2, t3, t4, t5, t6, t7, t8, t9, t10, t11, t12, t13, t14, t15, t16, t17, t18, t19, t20, t21⟩ := T
  have hN : (["_law_one", "_law_other", "_law_two", "_law_told", "_law_book", "_law_e"] : List Str).Nodup := by decide +kernel
  have hr2 := hr.mono (by decide : 2 ≤ 3)
  have ok1 := odd_fmt hd
  have L6 : ∃ l, l = List.replicate 6 (Dt.lst [d, e]) := ⟨_, rfl⟩
  have sh6 := shown_rep 6 (Dt.lst [d, e]) (n := 3) ⟨Nat.le_of_ble_eq_true rfl, fun z hz => by
    rcases List.mem_cons.mp hz with rfl | hz
    · exact hd.1
    · rcases List.mem_cons.mp hz with rfl | hz
      · exact he
      · cases hz⟩ (by decide) (by decide)
  have sh18 := shown_rep 18 d (n := 2) hd.1 (by decide) (by decide)
  refine dss_cons (ds_set 2 hN ?_)
  walk_at "drun"
  refine ds_setLc 3 5 rfl hN (blkOk_by (N := ["_law_one", "_law_other", "_law_two", "_law_told", "_law_book", "_law_e"]) (sc := defScope sFields) (by decide +kernel)) ?_
  refine di_lst ?_
  walk_at "drun"
  refine ⟨_, rfl, lc_map (fun _ => .lst [d, e]) (by show 4 ≤ 100000; decide) (fun i hi w2 k => ?_) ?_⟩
  · have hi2 : i = .err E.nk ["what", "who"] [d, e] ∨ i = .err E.nw ["what", "who"] [d, e] := by
      simp only [List.mem_cons, List.not_mem_nil, or_false] at hi
      rcases hi with h | h | h | h
      · exact .inl h
      · exact .inl h
      · exact .inr h
      · exact .inr h
    rcases hi2 with rfl | rfl
    · walk_at "drun"
      refine ⟨_, _, _, _, rfl, R.nkX, R.nkN0, rfl, ?_⟩
      walk_at "drun"
      refine ⟨_, _, _, _, rfl, R.nkX, R.nkN1, rfl, ?_⟩
      walk_at "drun"
      exact ⟨rfl, rfl⟩
    · walk_at "drun"
      refine ⟨_, _, _, _, rfl, R.nwX, R.nwN0, rfl, ?_⟩
      walk_at "drun"
      refine ⟨_, _, _, _, rfl, R.nwX, R.nwN1, rfl, ?_⟩
      walk_at "drun"
      exact ⟨rfl, rfl⟩
  walk_at "drun"
  refine ds_set 4 hN ?_
  walk_at "drun"
  refine ds_set 3 hN ?_
  walk_at "drun"
  refine de_lc 5 rfl hN (blkOk_by (N := ["_law_one", "_law_other", "_law_two", "_law_told", "_law_book", "_law_e"]) (sc := defScope sFields) (by decide +kernel)) ?_
  refine di_lst ?_
  walk_at "drun"
  refine ⟨_, rfl, lc_map (fun _ => .lst [d, e]) (by show 2 ≤ 100000; decide) (fun i hi w2 k => ?_) ?_⟩
  · have hi2 : i = .err E.nb ["what", "number"] [d, e] := by
      simp only [List.mem_cons, List.not_mem_nil, or_false] at hi
      rcases hi with h | h
      · exact h
      · exact h
    subst hi2
    walk_at "drun"
    refine ⟨_, _, _, _, rfl, R.nbX, R.nbN0, rfl, ?_⟩
    walk_at "drun"
    refine ⟨_, _, _, _, rfl, R.nbX, R.nbN1, rfl, ?_⟩
    walk_at "drun"
    exact ⟨rfl, rfl⟩
  refine op_addL (.inl rfl) (.inl rfl) (small_ok (Nat.le_of_ble_eq_true rfl)) ?_
  walk_at "drun"
  refine ca_reprL (ds := List.replicate 6 (.lst [d, e])) hr hg (.inl rfl) sh6 ?_
  walk_at "drun"
  refine op_mulL (n := 6) (.inl rfl) (by decide) (Nat.le_of_ble_eq_true rfl) ?_
  walk_at "drun"
  refine ca_reprL (ds := List.replicate 6 (.lst [d, e])) hr hg (.inl rfl) sh6 ?_
  refine op_neS ?_
  rw [decide_eq_true rfl]
  walk_at "drun"
  refine ds_set 3 hN (de_lstM ?_)
  walk_at "drun"
  refine fun q hq hw => ?_
  walk_at "drun"
  refine de_bm (T := "list") (id := "list.append") (de_nm rfl ⟨ty_lst (.inr ⟨q, rfl, put_same⟩), ?_⟩) PySem.F.plainAttrs_list PySem.F.slot_list_append PySem.F.type_list_append
  walk_at "drun"
  refine mt_appendM put_same (Nat.le_of_ble_eq_true rfl) ?_
  rw [put_put]
  walk_at "drun"
  refine ds_set 3 hN ?_
  walk_at "drun"
  refine op_addL (.inr ⟨q, rfl, put_same⟩) (.inl rfl) (small_ok (Nat.le_of_ble_eq_true rfl)) ?_
  walk_at "drun"
  refine ds_set 3 hN ?_
  walk_at "drun"
  refine op_addL (.inl rfl) (.inl rfl) (small_ok (Nat.le_of_ble_eq_true rfl)) ?_
  walk_at "drun"
  refine op_addL (.inl rfl) (.inl rfl) (small_ok (Nat.le_of_ble_eq_true rfl)) ?_
  walk_at "drun"
  refine ca_reprL (ds := List.replicate 18 d) hr hg (.inl rfl) sh18 ?_
  walk_at "drun"
  refine op_mulL (n := 18) (.inl rfl) (by decide) (Nat.le_of_ble_eq_true rfl) ?_
  walk_at "drun"
  refine ca_reprL (ds := List.replicate 18 d) hr hg (.inl rfl) sh18 ?_
  refine op_eqS ?_
  rw [decide_eq_true rfl]
  exact ⟨_, rfl, rfl, Mus.Sub.put (Mus.Sub.refl _) hq⟩
end
end K19

set_option Elab.async false
set_option linter.all false
set_option maxRecDepth 100000
set_option maxHeartbeats 4000000
namespace K19
open PySem PySem.Spec PyProof.Rows L2 Dat Er
local macro_rules
  | `(tactic| walk_at "down") => `(tactic| fail "none")
local macro_rules
  | `(tactic| walk_at "dset") => `(tactic| fail "none")
local macro_rules
  | `(tactic| walk_at "dhook") => `(tactic| fail "none")
local macro_rules
  | `(tactic| walk_at "dca") => `(tactic| fail "none")
local macro_rules
  | `(tactic| walk_at "dlst") => `(tactic| refine de_lst ?_)
local macro_rules
  | `(tactic| walk_at "dtup") => `(tactic| refine de_tup ?_)
local macro_rules
  | `(tactic| walk_at "dstep") => `(tactic| first
    | ((with_reducible show DE _ _ _ _ _ _); first | ((with_reducible show DE _ _ (Expr.Name _ _) _ _ _); first | ((with_reducible show DE _ _ (Expr.Name "int" _) _ _ _); refine de_ty_int (by assumption) ?_) | ((with_reducible show DE _ _ (Expr.Name "str" _) _ _ _); refine de_ty_str (by assumption) ?_) | ((with_reducible show DE _ _ (Expr.Name "bool" _) _ _ _); refine de_ty_bool (by assumption) ?_) | ((with_reducible show DE _ _ (Expr.Name "tuple" _) _ _ _); refine de_ty_tuple (by assumption) ?_) | ((with_reducible show DE _ _ (Expr.Name "list" _) _ _ _); refine de_ty_list (by assumption) ?_) | ((with_reducible show DE _ _ (Expr.Name "dict" _) _ _ _); refine de_ty_dict (by assumption) ?_) | refine de_nm rfl ?_ | refine de_globI (by assumption) ?_) | ((with_reducible show DE _ _ (Expr.Constant _ _ _) _ _ _); first | refine de_int ?_ | refine de_str ?_ | refine de_bl ?_ | refine de_non ?_) | ((with_reducible show DE _ _ (Expr.Call (Expr.Name _ _) _ _ _) _ _ _); first | ((with_reducible show DE _ _ (Expr.Call (Expr.Name "isinstance" _) _ _ _) _ _ _); refine de_isinstance ?_ (by assumption)) | ((with_reducible show DE _ _ (Expr.Call (Expr.Name "len" _) _ _ _) _ _ _); refine de_len ?_ (by assumption)) | ((with_reducible show DE _ _ (Expr.Call (Expr.Name "max" _) _ _ _) _ _ _); refine de_max ?_ (by assumption)) | ((with_reducible show DE _ _ (Expr.Call (Expr.Name "min" _) _ _ _) _ _ _); refine de_min ?_ (by assumption)) | ((with_reducible show DE _ _ (Expr.Call (Expr.Name "all" _) _ _ _) _ _ _); refine de_all ?_ (by assumption)) | ((with_reducible show DE _ _ (Expr.Call (Expr.Name "repr" _) _ _ _) _ _ _); refine de_repr ?_ (by assumption)) | ((with_reducible show DE _ _ (Expr.Call (Expr.Name "divmod" _) _ _ _) _ _ _); refine de_divmod ?_ (by assumption)) | ((with_reducible show DE _ _ (Expr.Call (Expr.Name "list" _) _ _ _) _ _ _); refine de_clist ?_ (by assumption)) | ((with_reducible show DE _ _ (Expr.Call (Expr.Name "tuple" _) _ _ _) _ _ _); refine de_ctuple ?_ (by assumption)) | ((with_reducible show DE _ _ (Expr.Call (Expr.Name "int" _) _ _ _) _ _ _); refine de_cint ?_ (by assumption)) | ((with_reducible show DE _ _ (Expr.Call (Expr.Name "str" _) _ _ _) _ _ _); refine de_cstr ?_ (by assumption)) | walk_at "down") | ((with_reducible show DE _ _ (Expr.BinOp _ _ _ _) _ _ _); refine de_op ?_) | ((with_reducible show DE _ _ (Expr.Compare _ [_] _ _) _ _ _); refine de_cmp ?_) | ((with_reducible show DE _ _ (Expr.Compare _ [_, _] _ _) _ _ _); refine de_chain ?_) | ((with_reducible show DE _ _ (Expr.Subscript _ (Expr.Slice _ _ _ _) _) _ _ _); refine de_slice ?_) | ((with_reducible show DE _ _ (Expr.Subscript _ _ _) _ _ _); refine de_ix ?_) | ((with_reducible show DE _ _ (Expr.BoolOp _ [_] _) _ _ _); refine de_one ?_) | ((with_reducible show DE _ _ (Expr.BoolOp BoolOp.And _ _) _ _ _); refine de_and ?_) | ((with_reducible show DE _ _ (Expr.BoolOp BoolOp.Or _ _) _ _ _); refine de_or ?_) | ((with_reducible show DE _ _ (Expr.UnaryOp UnaryOp.Not _ _) _ _ _); refine de_not ?_) | ((with_reducible show DE _ _ (Expr.UnaryOp _ _ _) _ _ _); refine de_un ?_) | ((with_reducible show DE _ _ (Expr.IfExp _ _ _ _) _ _ _); refine de_ifx ?_) | ((with_reducible show DE _ _ (Expr.Tuple _ _ _) _ _ _); walk_at "dtup") | ((with_reducible show DE _ _ (Expr.List _ _) _ _ _); walk_at "dlst") | ((with_reducible show DE _ _ (Expr.Dict [] [] _) _ _ _); refine de_dict0 ?_) | walk_at "dhook")
    | ((with_reducible show DA _ _ _ _ _ _); first | ((with_reducible show DA _ _ [] _ _ _); refine da_nil ?_) | ((with_reducible show DA _ _ (_ :: _) _ _ _); refine da_cons ?_))
    | ((with_reducible show BoolR _ _); refine ⟨_, rfl, ?_⟩)
    | ((with_reducible show (_ = true → _) ∧ (_ = false → _)); (refine ⟨fun h => ?_, fun h => ?_⟩ <;> try (exact Bool.noConfusion h)))
    | ((with_reducible show OpD _ _ _ _ _ _ _); first | ((with_reducible show OpD _ _ (binaryOp Operator.Add) _ _ _ _); first | refine op_addI ?_ | refine op_addT ?_) | ((with_reducible show OpD _ _ (binaryOp Operator.Sub) _ _ _ _); refine op_subI ?_) | ((with_reducible show OpD _ _ (binaryOp Operator.Mod) _ _ _ _); refine op_modI (by first | decide | assumption) ?_) | ((with_reducible show OpD _ _ (binaryOp Operator.Mult) _ _ _ _); refine op_mulI (by first | exact .inr (by decide) | exact .inl (by decide) | (exact .inl (by omega))) ?_) | ((with_reducible show OpD _ _ (binaryOp Operator.Pow) _ _ _ _); refine op_powI (by decide) (by decide) (by decide) ?_) | ((with_reducible show OpD _ _ (binaryOp Operator.FloorDiv) _ _ _ _); refine op_fdivI (by decide) (by decide) ?_) | ((with_reducible show OpD _ _ (compareOp CmpOp.Lt) _ _ _ _); refine op_ltI ?_) | ((with_reducible show OpD _ _ (compareOp CmpOp.LtE) _ _ _ _); first | refine op_leI ?_ | refine op_leS ?_) | ((with_reducible show OpD _ _ (compareOp CmpOp.Gt) _ _ _ _); refine op_gtI ?_) | ((with_reducible show OpD _ _ (compareOp CmpOp.GtE) _ _ _ _); refine op_geI ?_) | ((with_reducible show OpD _ _ (compareOp CmpOp.Eq) _ _ _ _); first | refine op_eqI ?_ | refine op_eqS ?_) | ((with_reducible show OpD _ _ (compareOp CmpOp.NotEq) _ _ _ _); first | refine op_neI ?_ | refine op_neS ?_))
    | ((with_reducible show CaD _ _ _ _ _ _); first | ((with_reducible show CaD _ _ (Value.builtin "isinstance") [_, SV.ty "int"] _ _); refine ca_isi (by assumption) (kit_int _ (by assumption)) ?_) | ((with_reducible show CaD _ _ (Value.builtin "isinstance") [_, SV.ty "bool"] _ _); refine ca_isi (by assumption) (kit_bool _ (by assumption)) ?_) | ((with_reducible show CaD _ _ (Value.builtin "isinstance") [_, SV.ty "str"] _ _); refine ca_isi (by assumption) (kit_str _ (by assumption)) ?_) | ((with_reducible show CaD _ _ (Value.builtin "isinstance") [_, SV.ty "tuple"] _ _); refine ca_isi (by assumption) (kit_tuple _ (by assumption)) ?_) | ((with_reducible show CaD _ _ (Value.builtin "isinstance") [_, SV.ty "list"] _ _); refine ca_isi (by assumption) (kit_list _ (by assumption)) ?_) | ((with_reducible show CaD _ _ (Value.builtin "isinstance") [_, SV.ty "dict"] _ _); refine ca_isi (by assumption) (kit_dict _ (by assumption)) ?_) | ((with_reducible show CaD _ _ (Value.builtin "max") _ _ _); refine ca_max2 rfl ?_) | ((with_reducible show CaD _ _ (Value.builtin "min") _ _ _); refine ca_min2 rfl ?_) | ((with_reducible show CaD _ _ (Value.builtin "len") _ _ _); first | refine ca_lenT ?_ | refine ca_lenS (by assumption) ?_ | refine ca_lenSc ?_ | refine ca_lenL (.inl rfl) ?_) | ((with_reducible show CaD _ _ (Value.type "list") _ _ _); refine ca_listT ?_) | ((with_reducible show CaD _ _ (Value.builtin "divmod") _ _ _); refine ca_divmod (by assumption) (by omega) ?_) | walk_at "dca")
    | ((with_reducible show DT _ _ _ _ _ _); first | ((with_reducible show DT _ _ (Expr.BoolOp _ _ _) _ _ _); refine dt_w ?_) | ((with_reducible show DT _ _ (Expr.UnaryOp UnaryOp.Not _ _) _ _ _); refine dt_not ?_) | ((with_reducible show DT _ _ (Expr.Compare _ [_] _ _) _ _ _); refine dt_cmp ?_) | ((with_reducible show DT _ _ (Expr.Compare _ [_, _] _ _) _ _ _); refine dt_chain ?_) | refine dt_val ?_)
    | ((with_reducible show DW _ _ _ _ _ _); first | ((with_reducible show DW _ _ (Expr.BoolOp BoolOp.And [_] _) _ _ _); refine dw_and1 ?_) | ((with_reducible show DW _ _ (Expr.BoolOp BoolOp.Or [_] _) _ _ _); refine dw_or1 ?_) | ((with_reducible show DW _ _ (Expr.BoolOp BoolOp.And _ _) _ _ _); refine dw_and ?_) | ((with_reducible show DW _ _ (Expr.BoolOp BoolOp.Or _ _) _ _ _); refine dw_or ?_))
    | ((with_reducible show DSs _ _ _ _ _ _); first | ((with_reducible show DSs _ _ [] _ _ _); refine dss_nil ?_) | ((with_reducible show DSs _ _ [_] _ _ _); refine dss_one ?_) | ((with_reducible show DSs _ _ (_ :: _) _ _ _); refine dss_cons ?_))
    | ((with_reducible show DS _ _ _ _ _ _); first | ((with_reducible show DS _ _ (Stmt.Return (some _) _) _ _ _); refine ds_ret ?_) | ((with_reducible show DS _ _ (Stmt.If _ _ _ _) _ _ _); refine ds_if ?_) | ((with_reducible show DS _ _ (Stmt.Expr _ _) _ _ _); refine ds_expr ?_) | ((with_reducible show DS _ _ (Stmt.Assign [Expr.Name _ _] _ _) _ _ _); walk_at "dset"))
    | ((with_reducible show DP _ _ none _ _ _); refine dp_none ?_)
    | ((with_reducible show DP _ _ (some _) _ _ _); refine dp_some ?_)
    | ((with_reducible show ∃ d, SV.dat _ = SV.dat d ∧ Fi d ∧ _); refine ⟨_, rfl, by assumption, ?_⟩)
    | ((with_reducible show ∃ i, SV.dat (Dt.int _) = SV.dat (Dt.int i) ∧ _); refine ⟨_, rfl, ?_⟩)
    | ((with_reducible show SlD _ _ (SV.dat (Dt.tup _)) _ _ _ _); refine sl_dT ?_)
    | ((with_reducible show ∃ ds, undat _ = some ds ∧ ds.length ≤ 1000 ∧ _); refine ⟨_, rfl, Nat.le_of_ble_eq_true rfl, ?_⟩)
    | ((with_reducible show ∃ q, SV.at _ = SV.at q ∧ _); refine ⟨_, rfl, ?_⟩)
    | ((with_reducible show ∃ z, SV.dat (Dt.str _) = SV.dat (Dt.str z) ∧ _); refine ⟨_, rfl, ?_⟩)
    | ((with_reducible show IxD _ _ (SV.at _) (SV.dat (Dt.int 0)) _ _); refine ix_pot0 (by assumption) (fun _ _ => ?_))
    | ((with_reducible show IxD _ _ (SV.at _) (SV.dat (Dt.int 1)) _ _); refine ix_pot1 (by assumption) (fun _ _ _ => ?_))
    | ((with_reducible show UnD _ _ (unaryOp UnaryOp.USub) _ _ _); refine un_negI ?_)
    | ((with_reducible show Po.nx _ _ _); dsimp only)
    | ((with_reducible show Po.rt _ _ _); dsimp only))
local macro_rules
  | `(tactic| walk_at "drun") => `(tactic| repeat' (walk_at "dstep"))

/-! ### the law -/
def spLaw (K : PySem.W.Frag) : Sp := GSp (fun rs _ => ∃ a ns, rs = [.sc K a ns] ∧ ns.length ≤ 63) fun rs μ r μ' => r = .dat (.bl true)
def pairs (E : Errs) (d e : Dt) : List (Dt × Dt) := [(.err E.fe [] [], .lst [.int 0, .int 1]), (.err E.nk ["what", "who"] [d, e], .lst [.int 0, .int 1, .int 2]), (.err E.nw ["what", "who"] [d, e], .lst [.int 0, .int 1, .int 3]), (.err E.nb ["what", "number"] [d, e], .lst [.int 0, .int 1, .int 4]), (.err E.nh ["who"] [d], .lst [.int 0, .int 1, .int 5]), (.err E.nt [] [], .lst [.int 0, .int 1, .int 6]), (.err E.nx [] [], .lst [.int 0, .int 1, .int 7]), (.err E.nc [] [], .lst [.int 0, .int 1, .int 8]), (.err E.nr [] [], .lst [.int 0, .int 1, .int 9]), (.err E.no ["who"] [d], .lst [.int 10, .int 11]), (.err E.ne ["end"] [d], .lst [.int 10, .int 12]), (.err E.ki ["word"] [d], .lst [.int 10, .int 13, .int 14]), (.err E.ru ["pair"] [d], .lst [.int 10, .int 13, .int 15]), (.err E.su ["who"] [d], .lst [.int 10, .int 13, .int 16]), (.err E.me ["who"] [d], .lst [.int 17, .int 18]), (.err E.ca ["by"] [d], .lst [.int 17, .int 19]), (.err E.un [] [], .lst [.int 17, .int 20]), (.err E.tm ["limit"] [d], .lst [.int 21, .int 22])]
theorem pairs_ok {P : Program} {w : World} {K : PySem.W.Frag} {mg : Str → Option Value} {E : Errs} (R : Ers P w K mg E) (d e : Dt) : ∀ p, p ∈ pairs E d e → ∃ ps : List Int, p.2 = .lst (ps.map .int) ∧ IsErr K E (bsOf ps) p.1 := by
  intro p hp
  unfold pairs at hp
  simp only [List.mem_cons, List.not_mem_nil, or_false] at hp
  rcases hp with rfl | rfl | rfl | rfl | rfl | rfl | rfl | rfl | rfl | rfl | rfl | rfl | rfl | rfl | rfl | rfl | rfl | rfl
  · exact ⟨[0, 1], rfl, _, _, _, rfl, R.feF.is, R.feF.t⟩
  · exact ⟨[0, 1, 2], rfl, _, _, _, rfl, R.nkF.is, R.nkF.t⟩
  · exact ⟨[0, 1, 3], rfl, _, _, _, rfl, R.nwF.is, R.nwF.t⟩
  · exact ⟨[0, 1, 4], rfl, _, _, _, rfl, R.nbF.is, R.nbF.t⟩
  · exact ⟨[0, 1, 5], rfl, _, _, _, rfl, R.nhF.is, R.nhF.t⟩
  · exact ⟨[0, 1, 6], rfl, _, _, _, rfl, R.ntF.is, R.ntF.t⟩
  · exact ⟨[0, 1, 7], rfl, _, _, _, rfl, R.nxF.is, R.nxF.t⟩
  · exact ⟨[0, 1, 8], rfl, _, _, _, rfl, R.ncF.is, R.ncF.t⟩
  · exact ⟨[0, 1, 9], rfl, _, _, _, rfl, R.nrF.is, R.nrF.t⟩
  · exact ⟨[10, 11], rfl, _, _, _, rfl, R.noF.is, R.noF.t⟩
  · exact ⟨[10, 12], rfl, _, _, _, rfl, R.neF.is, R.neF.t⟩
  · exact ⟨[10, 13, 14], rfl, _, _, _, rfl, R.kiF.is, R.kiF.t⟩
  · exact ⟨[10, 13, 15], rfl, _, _, _, rfl, R.ruF.is, R.ruF.t⟩
  · exact ⟨[10, 13, 16], rfl, _, _, _, rfl, R.suF.is, R.suF.t⟩
  · exact ⟨[17, 18], rfl, _, _, _, rfl, R.meF.is, R.meF.t⟩
  · exact ⟨[17, 19], rfl, _, _, _, rfl, R.caF.is, R.caF.t⟩
  · exact ⟨[17, 20], rfl, _, _, _, rfl, R.unF.is, R.unF.t⟩
  · exact ⟨[21, 22], rfl, _, _, _, rfl, R.tmF.is, R.tmF.t⟩
set_option hygiene false in
local macro_rules
  | `(tactic| walk_at "down") => `(tactic| first | ((with_reducible show DE _ _ (Expr.Call (Expr.Name "_law_take" _) _ _ _) _ _ _); refine de_take oTake hr (by decide) hg ?_) | ((with_reducible show DE _ _ (Expr.Call (Expr.Name "_law_odd" _) _ _ _) _ _ _); refine de_q0 oOdd hr (by decide) hg ?_) | ((with_reducible show DE _ _ (Expr.Call (Expr.Name "_law_pot" _) _ _ _) _ _ _); refine de_own oPot hr (by decide) hg ?_) | ((with_reducible show DE _ _ (Expr.Call (Expr.Name "_law_fields_right" _) _ _ _) _ _ _); refine de_pure oFields hr (by decide) hg ?_) | ((with_reducible show DE _ _ (Expr.Call (Expr.Name "_law_stands" _) _ _ _) _ _ _); refine de_pure oStands hr (by decide) hg ?_) | ((with_reducible show DE _ _ (Expr.Call (Expr.Name "FacerError" _) _ _ _) _ _ _); refine de_errT R.feM R.feF.g R.feF.k ?_) | ((with_reducible show DE _ _ (Expr.Call (Expr.Name "NoKinds" _) _ _ _) _ _ _); refine mk2 R.nkM hr2 hg R.nkF.g R.nkF.k (fun _ z => de_nm rfl z) (fun _ z => de_nm rfl z) ok1 ?_) | ((with_reducible show DE _ _ (Expr.Call (Expr.Name "NoWeb" _) _ _ _) _ _ _); refine mk2 R.nwM hr2 hg R.nwF.g R.nwF.k (fun _ z => de_nm rfl z) (fun _ z => de_nm rfl z) ok1 ?_) | ((with_reducible show DE _ _ (Expr.Call (Expr.Name "NoBook" _) _ _ _) _ _ _); refine mk2 R.nbM hr2 hg R.nbF.g R.nbF.k (fun _ z => de_nm rfl z) (fun _ z => de_nm rfl z) ok1 ?_) | ((with_reducible show DE _ _ (Expr.Call (Expr.Name "NoHeap" _) _ _ _) _ _ _); refine mk1 R.nhM hr2 hg R.nhF.g R.nhF.k (fun _ z => de_nm rfl z) ?_) | ((with_reducible show DE _ _ (Expr.Call (Expr.Name "NoText" _) _ _ _) _ _ _); refine de_errT R.ntM R.ntF.g R.ntF.k ?_) | ((with_reducible show DE _ _ (Expr.Call (Expr.Name "NoWish" _) _ _ _) _ _ _); refine de_errT R.nxM R.nxF.g R.nxF.k ?_) | ((with_reducible show DE _ _ (Expr.Call (Expr.Name "NoCount" _) _ _ _) _ _ _); refine de_errT R.ncM R.ncF.g R.ncF.k ?_) | ((with_reducible show DE _ _ (Expr.Call (Expr.Name "NoRow" _) _ _ _) _ _ _); refine de_errT R.nrM R.nrF.g R.nrF.k ?_) | ((with_reducible show DE _ _ (Expr.Call (Expr.Name "NoOne" _) _ _ _) _ _ _); refine mk1 R.noM hr2 hg R.noF.g R.noF.k (fun _ z => de_nm rfl z) ?_) | ((with_reducible show DE _ _ (Expr.Call (Expr.Name "NoEnd" _) _ _ _) _ _ _); refine mk1 R.neM hr2 hg R.neF.g R.neF.k (fun _ z => de_nm rfl z) ?_) | ((with_reducible show DE _ _ (Expr.Call (Expr.Name "NoKind" _) _ _ _) _ _ _); refine mk1 R.kiM hr2 hg R.kiF.g R.kiF.k (fun _ z => de_nm rfl z) ?_) | ((with_reducible show DE _ _ (Expr.Call (Expr.Name "NoRule" _) _ _ _) _ _ _); refine mk1 R.ruM hr2 hg R.ruF.g R.ruF.k (fun _ z => de_nm rfl z) ?_) | ((with_reducible show DE _ _ (Expr.Call (Expr.Name "NoSuch" _) _ _ _) _ _ _); refine mk1 R.suM hr2 hg R.suF.g R.suF.k (fun _ z => de_nm rfl z) ?_) | ((with_reducible show DE _ _ (Expr.Call (Expr.Name "NoMeeting" _) _ _ _) _ _ _); refine mk1 R.meM hr2 hg R.meF.g R.meF.k (fun _ z => de_nm rfl z) ?_) | ((with_reducible show DE _ _ (Expr.Call (Expr.Name "Caused" _) _ _ _) _ _ _); refine mk1 R.caM hr2 hg R.caF.g R.caF.k (fun _ z => de_nm rfl z) ?_) | ((with_reducible show DE _ _ (Expr.Call (Expr.Name "Unlike" _) _ _ _) _ _ _); refine de_errT R.unM R.unF.g R.unF.k ?_) | ((with_reducible show DE _ _ (Expr.Call (Expr.Name "TooMany" _) _ _ _) _ _ _); refine mk1 R.tmM hr2 hg R.tmF.g R.tmF.k (fun _ z => de_nm rfl z) ?_))
section
variable {P : Program} {w : World} {K : PySem.W.Frag} {mg : Str → Option Value} {base : Heap}
abbrev sLaw : Stmt := top 26
abbrev nLaw : List Str := ["_law_script", "_law_k", "_law_pot_here", "_law_one", "_law_other", "_law_some", "_law_e", "_law_places"]
theorem scLaw : FnScope nLaw ["_law_script"] (defScope sLaw) := ⟨rfl, rfl, rfl, by decide +kernel, rfl, by decide +kernel, by decide +kernel⟩
theorem ok_law {E : Errs} {f : Addr} {fd : FuncData} (F : Fun K "law" "law" sLaw f fd) (T : Txt mg) (R : Ers P w K mg E) (oPot : Own P w K mg base "_law_pot" 1 (spPot K)) (oTake : Own P w K mg base "_law_take" 1 spTake) (oOdd : Own P w K mg base "_law_odd" 2 spOdd) (oStands : Own P w K mg base "_law_stands" 2 (spStands K E)) (oFields : Own P w K mg base "_law_fields_right" 4 spFields) : FnG P w K mg base 5 f fd ["_law_script"] (spLaw K) := by
  refine fn_ok F scLaw (fun rs μ ⟨a, ns, e, _⟩ => by rw [e]; rfl) fun cdv A outer s H hr hg w' rs μ ⟨a, ns, e, hns⟩ => ?_
  subst e
  obtain ⟨t1, t2, t3, t4, t5, t6, t7, t8, t9, t10, t11, t12, t13, t14, t15, t16, t17, t18, t19, t20, t21⟩ := T
  have hN : nLaw.Nodup := by decide +kernel
  have hr2 := hr.mono (by decide : 2 ≤ 4)
  refine dss_cons ?_
  refine ds_for (di_range1 ?_ t12) PassesOwn.never rfl
  walk_at "drun"
  refine ⟨_, rfl, by omega, by omega, fun n ρ' μ' => ∃ r1 r2 r3 r4 r5 r6 r7, ρ' = [.sc K a ns, r1, r2, r3, r4, r5, r6, r7], ⟨_, _, _, _, _, _, _, rfl⟩, ?_, ?_⟩
  · rintro n d ρ' μ2 hd ⟨r1, r2, r3, r4, r5, r6, r7, rfl⟩
    have h1 := (List.getElem?_eq_some_iff.mp hd).1
    have hu : (upto 0 (max 1 (min 4 (ns.length : Int))).toNat).length ≤ 4 := by simp [upto]; omega
    have hdv : d = .int (0 + (n : Int)) := by
      unfold upto at hd
      rw [List.getElem?_map, List.getElem?_range (by simpa [upto] using h1)] at hd
      exact (Option.some.inj hd).symm
    subst hdv
    refine dg_name 1 hN ?_
    refine dss_cons (ds_set 2 hN ?_)
    walk_at "drun"
    refine ⟨⟨a, ns, _, rfl, by omega, by omega, by omega⟩, ?_⟩
    rintro r μ3 ⟨p, rfl, hq0, rfl⟩
    refine dss_cons (ds_par 3 4 rfl hN ?_)
    walk_at "drun"
    refine ⟨put_same, fun d1 hd1 => ?_⟩
    walk_at "drun"
    refine ⟨put_same, fun d2 hd2 => ?_⟩
    walk_at "drun"
    refine ⟨put_same, ⟨by decide, by decide⟩, fun v1 hv0 hv1 => ?_⟩
    walk_at "drun"
    refine ⟨put_same, ⟨by decide, by decide⟩, fun v2 hw0 hw1 => ?_⟩
    obtain ⟨d3, hm, hat⟩ := atI_some [d2, .int v1] v2 hw0 (by simpa using hw1)
    have hf3 : Fld d3 := by
      rcases List.mem_cons.mp hm with h | h
      · rw [h]; exact hd2.1
      · rcases List.mem_cons.mp h with h | h
        · rw [h]
          refine fine_int 2 ?_
          have e9 : (10 : Int) ^ (Int.toNat 9) = 1000000000 := by decide
          have : v1 < 1000000000 := by simpa [e9] using hv1
          exact Nat.lt_of_lt_of_le (m := 1000000000) (by omega) (by decide)
        · cases h
    refine ix_dL (.inl rfl) hat ?_
    walk_at "drun"
    refine ⟨_, _, rfl, ?_⟩
    have ok1 := odd_fmt hd1
    walk_at "drun"
    refine ⟨_, rfl, ⟨d1, d3, rfl, hd1, hf3⟩, ?_⟩
    rintro d4 rfl
    walk_at "drun"
    refine ds_set 5 hN ?_
    walk_at "drun"
    iterate 5 (refine ds_set 5 hN ?_; walk_at "drun"; refine op_addL (.inl rfl) (.inl rfl) (small_ok (Nat.le_of_ble_eq_true rfl)) ?_; walk_at "drun")
    refine de_lc2 6 7 (by decide) rfl hN (blkOk_by (N := nLaw) (sc := defScope sLaw) (by decide +kernel)) ?_
    refine di_lst ?_
    walk_at "drun"
    refine ⟨_, rfl, ?_⟩
    show LcAsk2 _ _ _ _ _ _ _ _ ((pairs E d1 d3).map fun p => .tup [p.1, p.2]) _
    refine lc2_map 6 7 (pairs E d1 d3) (fun _ => .bl true) (by show 18 ≤ 100000; decide) (fun p hp w2 k => ?_) ?_
    · obtain ⟨ps, e1, e2⟩ := pairs_ok R d1 d3 p hp
      walk_at "drun"
      refine ⟨_, rfl, ⟨p.1, ps, by rw [e1], e2⟩, ?_⟩
      rintro d5 rfl
      exact ⟨rfl, rfl⟩
    · walk_at "drun"
      refine ca_all rfl (bs := List.replicate 18 true) (.inl rfl) ?_
      have e18 : (List.replicate 18 true).all id = true := by decide
      rw [e18]
      walk_at "drun"
      exact ⟨_, _, _, _, _, _, _, rfl⟩
  · rintro ρ' μ' ⟨r1, r2, r3, r4, r5, r6, r7, rfl⟩
    walk_at "drun"
    exact ⟨_, Mus.Sub.refl _, rfl⟩
end
end K19

set_option Elab.async false
set_option linter.all false
set_option maxRecDepth 100000
set_option maxHeartbeats 4000000
/-! K19y: what is asked of the written part, as truths. -/
namespace Er
open PySem PySem.Spec PyProof.Rows L2 Dat
def isB (K : PySem.W.Frag) (C : Addr) : Bool :=
  (PySem.W.clsIn K C).isSome && decide (PySem.W.findIn K (.ref C) "__getattribute__" = some (some (.builtin "BaseException.__getattribute__"))) && decide (PySem.W.findIn K (.ref C) "__getattr__" = some none) && decide (PySem.W.subIn K (.ref C) (.type "BaseException") = some true) &&
  decide (PySem.W.findIn K (.ref C) "__class__" = some (some (.builtin "object.__class__"))) && decide (PySem.W.specialIn K (.builtin "object.__class__") "__get__" = some (some (.builtin "getset_descriptor.__get__"))) && decide (PySem.W.takesIn K (.builtin "object.__class__") = some true) && decide (PySem.W.mroIn K C (.type "object") = some true)
theorem isB_ok {K : PySem.W.Frag} {C : Addr} (h : isB K C = true) : IsC K C := by
  unfold isB at h
  simp only [Bool.and_eq_true, decide_eq_true_eq] at h
  obtain ⟨⟨⟨⟨⟨⟨⟨h1, h2⟩, h3⟩, h4⟩, h5⟩, h6⟩, h7⟩, h8⟩ := h
  exact ⟨h1, h2, h3, h4, h5, h6, h7, h8⟩
/-- of a class with fields -/
def efB (K : PySem.W.Frag) (C fI : Addr) (bmB : List Value) (newId i B : String) (fs : List Str) : Bool :=
  PySem.W.excInitIn K C bmB newId && decide (PySem.W.ks_superIn K C C "__init__" = some (some (.builtin i))) && decide (PySem.W.mroIn K C (.ref C) = some true) && decide (PySem.W.subIn K (.ref C) (.type B) = some true) && decide (PySem.W.nsIn K cStatics "thirdparty.any" = some none) &&
  decide (PySem.W.findIn K (.ref C) "__setattr__" = some (some (.builtin "object.__setattr__"))) && PySem.W.excOver K C bmB && PySem.W.hasDictIn K C && xfB K C && decide (PySem.W.typeIn K (.ref fI) = some (.type "function")) && fs.all fun f => decide (PySem.W.findIn K (.ref C) f = some none) && decide (PySem.W.takerIn K C f = some none)
structure EfOk (K : PySem.W.Frag) (C fI : Addr) (bmB : List Value) (newId i B BN : String) (fs : List Str) : Prop where
  c : ClsE K C bmB BN B i newId
  s : StE K C bmB
  x : XfC K C
  t : PySem.W.typeIn K (.ref fI) = some (.type "function")
  f : ∀ f, f ∈ fs → PySem.W.findIn K (.ref C) f = some none ∧ PySem.W.takerIn K C f = some none
theorem efB_ok {K : PySem.W.Frag} {C fI : Addr} {bmB : List Value} {newId i B BN : String} {fs : List Str} (tl : Tl BN bmB) (h : efB K C fI bmB newId i B fs = true) : EfOk K C fI bmB newId i B BN fs := by
  unfold efB at h
  simp only [Bool.and_eq_true, decide_eq_true_eq, List.all_eq_true] at h
  obtain ⟨⟨⟨⟨⟨⟨⟨⟨⟨⟨h1, h2⟩, h3⟩, h4⟩, h5⟩, h6⟩, h7⟩, h8⟩, h9⟩, h10⟩, h11⟩ := h
  exact ⟨⟨h1, tl, h2, h3, h4, h5⟩, ⟨h6, h7, h8⟩, xfB_ok h9, h10, h11⟩
def fileB (p : Program) (K : PySem.W.Frag) (c : Addr) : Bool := match K.lookup c with
  | some ⟨_, _, Data.fields (vs : Array Value), _⟩ => (match (vs[2]? : Option Value) with | some (Value.str file _) => (p.main.file : Str) == file | _ => false)
  | _ => false
theorem fileB_ok {p : Program} {K : PySem.W.Frag} {c : Addr} (h : fileB p K c = true) : ∃ ccl cdd vs ccs file tf, K.lookup c = some ⟨ccl, cdd, .fields vs, ccs⟩ ∧ vs[2]? = some (.str file tf) ∧ ((p.main.file : Str) == file) = true := by
  unfold fileB at h
  split at h
  · rename_i a b vs d e
    split at h
    · rename_i file tf q
      exact ⟨_, _, _, _, _, _, e, q, h⟩
    · cases h
  · cases h
def cellB (K : PySem.W.Frag) (c C : Addr) : Bool := match K.lookup c with
  | some ⟨_, _, .cell (some (.ref D)), _⟩ => D == C
  | _ => false
theorem cellB_ok {K : PySem.W.Frag} {c C : Addr} (h : cellB K c C = true) : ∃ cl cld csl, K.lookup c = some ⟨cl, cld, .cell (some (.ref C)), csl⟩ := by
  unfold cellB at h
  split at h
  · rename_i a b D d e
    have := beq_iff_eq.mp h
    subst this
    exact ⟨_, _, _, e⟩
  · cases h
def topB (p : Program) : Bool := !(p.main.scope.names.lookup ("super" : Str)).isSome
end Er

set_option Elab.async false
set_option linter.all false
set_option maxRecDepth 100000
set_option maxHeartbeats 4000000
namespace K19
open PySem L2 Dat Er

abbrev i_nk : Stmt := inClass (top 2) 0
abbrev i_nw : Stmt := inClass (top 3) 0
abbrev i_nb : Stmt := inClass (top 4) 0
abbrev i_nh : Stmt := inClass (top 5) 0
abbrev i_no : Stmt := inClass (top 10) 0
abbrev i_ne : Stmt := inClass (top 11) 0
abbrev i_ki : Stmt := inClass (top 12) 0
abbrev i_ru : Stmt := inClass (top 13) 0
abbrev i_su : Stmt := inClass (top 14) 0
abbrev i_me : Stmt := inClass (top 15) 0
abbrev i_ca : Stmt := inClass (top 16) 0
abbrev i_tm : Stmt := inClass (top 18) 0
theorem all_mk {l : PySem.W.OpenLaw} {w : World} {K : PySem.W.Frag} {h : Heap} {mg : Str → Option Value} {fa a_fe a_nk a_nw a_nb a_nh a_nt a_nx a_nc a_nr a_no a_ne a_ki a_ru a_su a_me a_ca a_un a_tm f_nk d_nk c_nk f_nw d_nw c_nw f_nb d_nb c_nb f_nh d_nh c_nh f_no d_no c_no f_ne d_ne c_ne f_ki d_ki c_ki f_ru d_ru c_ru f_su d_su c_su f_me d_me c_me f_ca d_ca c_ca f_tm d_tm c_tm f0 f1 f2 f3 f4 f5 f6 : Addr} (X : K.In h) (G : h.Ns mainGlobals mg) (hfa : mg "law" = some (.ref fa))
    {od0 an0 od1 an1 od2 an2 od3 an3 od4 an4 od5 an5 od6 an6 od_nk an_nk od_nw an_nw od_nb an_nb od_nh an_nh od_no an_no od_ne an_ne od_ki an_ki od_ru an_ru od_su an_su od_me an_me od_ca an_ca od_tm an_tm : Option Addr} {sl0 sl1 sl2 sl3 sl4 sl5 sl6 sl_nk sl_nw sl_nb sl_nh sl_no sl_ne sl_ki sl_ru sl_su sl_me sl_ca sl_tm : Array (Option Value)} {oc0 kV0 dc0 pm0 ct0 oc1 kV1 dc1 pm1 ct1 oc2 kV2 dc2 pm2 ct2 oc3 kV3 dc3 pm3 ct3 oc4 kV4 dc4 pm4 ct4 oc5 kV5 dc5 pm5 ct5 oc6 kV6 dc6 pm6 ct6 oc_nk kV_nk dc_nk pm_nk ct_nk oc_nw kV_nw dc_nw pm_nw ct_nw oc_nb kV_nb dc_nb pm_nb ct_nb oc_nh kV_nh dc_nh pm_nh ct_nh oc_no kV_no dc_no pm_no ct_no oc_ne kV_ne dc_ne pm_ne ct_ne oc_ki kV_ki dc_ki pm_ki ct_ki oc_ru kV_ru dc_ru pm_ru ct_ru oc_su kV_su dc_su pm_su ct_su oc_me kV_me dc_me pm_me ct_me oc_ca kV_ca dc_ca pm_ca ct_ca oc_tm kV_tm dc_tm pm_tm ct_tm cd0 cd1 cd2 cd3 cd4 cd5 cd6 : Value}
    (a0 : PySem.W.nsIn K mainGlobals "_law_pot" = some (some (.ref f0)))
    (l0 : K.lookup f0 = some ⟨oc0, od0, .func (PySem.W.fnOf "_law_pot" "_law_pot" (defArgs sPot) (defBody sPot) (defScope sPot) .none kV0 dc0 pm0 an0 cd0 ct0), sl0⟩)
    (c0 : PySem.W.codeIn K cd0 "_law_pot" = true)
    (k0 : PySem.W.keepIn K (.ref f0) = true)
    (a1 : PySem.W.nsIn K mainGlobals "_law_take" = some (some (.ref f1)))
    (l1 : K.lookup f1 = some ⟨oc1, od1, .func (PySem.W.fnOf "_law_take" "_law_take" (defArgs sTake) (defBody sTake) (defScope sTake) .none kV1 dc1 pm1 an1 cd1 ct1), sl1⟩)
    (c1 : PySem.W.codeIn K cd1 "_law_take" = true)
    (k1 : PySem.W.keepIn K (.ref f1) = true)
    (a2 : PySem.W.nsIn K mainGlobals "_law_odd" = some (some (.ref f2)))
    (l2 : K.lookup f2 = some ⟨oc2, od2, .func (PySem.W.fnOf "_law_odd" "_law_odd" (defArgs sOdd) (defBody sOdd) (defScope sOdd) .none kV2 dc2 pm2 an2 cd2 ct2), sl2⟩)
    (c2 : PySem.W.codeIn K cd2 "_law_odd" = true)
    (k2 : PySem.W.keepIn K (.ref f2) = true)
    (a3 : PySem.W.nsIn K mainGlobals "_law_under" = some (some (.ref f3)))
    (l3 : K.lookup f3 = some ⟨oc3, od3, .func (PySem.W.fnOf "_law_under" "_law_under" (defArgs sUnder) (defBody sUnder) (defScope sUnder) .none kV3 dc3 pm3 an3 cd3 ct3), sl3⟩)
    (c3 : PySem.W.codeIn K cd3 "_law_under" = true)
    (k3 : PySem.W.keepIn K (.ref f3) = true)
    (a4 : PySem.W.nsIn K mainGlobals "_law_stands" = some (some (.ref f4)))
    (l4 : K.lookup f4 = some ⟨oc4, od4, .func (PySem.W.fnOf "_law_stands" "_law_stands" (defArgs sStands) (defBody sStands) (defScope sStands) .none kV4 dc4 pm4 an4 cd4 ct4), sl4⟩)
    (c4 : PySem.W.codeIn K cd4 "_law_stands" = true)
    (k4 : PySem.W.keepIn K (.ref f4) = true)
    (a5 : PySem.W.nsIn K mainGlobals "_law_fields_right" = some (some (.ref f5)))
    (l5 : K.lookup f5 = some ⟨oc5, od5, .func (PySem.W.fnOf "_law_fields_right" "_law_fields_right" (defArgs sFields) (defBody sFields) (defScope sFields) .none kV5 dc5 pm5 an5 cd5 ct5), sl5⟩)
    (c5 : PySem.W.codeIn K cd5 "_law_fields_right" = true)
    (k5 : PySem.W.keepIn K (.ref f5) = true)
    (a6 : PySem.W.nsIn K mainGlobals "law" = some (some (.ref f6)))
    (l6 : K.lookup f6 = some ⟨oc6, od6, .func (PySem.W.fnOf "law" "law" (defArgs sLaw) (defBody sLaw) (defScope sLaw) .none kV6 dc6 pm6 an6 cd6 ct6), sl6⟩)
    (c6 : PySem.W.codeIn K cd6 "law" = true)
    (k6 : PySem.W.keepIn K (.ref f6) = true)
    (z0 : PySem.W.nsIn K mainGlobals "isinstance" = some none)
    (z1 : PySem.W.nsIn K mainGlobals "int" = some none)
    (z2 : PySem.W.nsIn K mainGlobals "bool" = some none)
    (z3 : PySem.W.nsIn K mainGlobals "str" = some none)
    (z4 : PySem.W.nsIn K mainGlobals "tuple" = some none)
    (z5 : PySem.W.nsIn K mainGlobals "list" = some none)
    (z6 : PySem.W.nsIn K mainGlobals "len" = some none)
    (z7 : PySem.W.nsIn K mainGlobals "all" = some none)
    (z8 : PySem.W.nsIn K mainGlobals "max" = some none)
    (z9 : PySem.W.nsIn K mainGlobals "min" = some none)
    (z10 : PySem.W.nsIn K mainGlobals "repr" = some none)
    (z11 : PySem.W.nsIn K mainGlobals "range" = some none)
    (z12 : PySem.W.nsIn K mainGlobals "divmod" = some none)
    (z13 : PySem.W.nsIn K mainGlobals "super" = some none)
    (z14 : PySem.W.nsIn K mainGlobals "ValueError" = some none)
    (z15 : PySem.W.nsIn K mainGlobals "LookupError" = some none)
    (z16 : PySem.W.nsIn K mainGlobals "KeyError" = some none)
    (z17 : PySem.W.nsIn K mainGlobals "RuntimeError" = some none)
    (z18 : PySem.W.nsIn K mainGlobals "ArithmeticError" = some none)
    (z19 : PySem.W.nsIn K mainGlobals "IndexError" = some none)
    (z20 : PySem.W.nsIn K mainGlobals "ZeroDivisionError" = some none)
    (e_fe : PySem.W.nsIn K mainGlobals "FacerError" = some (some (.ref a_fe)))
    (ek_fe : PySem.W.keepIn K (.ref a_fe) = true)
    (is_fe : isB K a_fe = true)
    (ex_fe : PySem.W.excIn K a_fe [.type "ValueError", .type "Exception", .type "BaseException", .type "object"] "ValueError.__new__" = true)
    (e_nk : PySem.W.nsIn K mainGlobals "NoKinds" = some (some (.ref a_nk)))
    (ek_nk : PySem.W.keepIn K (.ref a_nk) = true)
    (is_nk : isB K a_nk = true)
    (in_nk : PySem.W.findIn K (.ref a_nk) "__init__" = some (some (.ref f_nk)))
    (l_nk : K.lookup f_nk = some ⟨oc_nk, od_nk, .func (PySem.W.ksFn "__init__" "NoKinds.__init__" (defArgs i_nk) (defBody i_nk) (defScope i_nk) .none kV_nk dc_nk pm_nk an_nk (.ref d_nk) ct_nk c_nk), sl_nk⟩)
    (co_nk : PySem.W.codeIn K (.ref d_nk) "NoKinds.__init__" = true)
    (fi_nk : fileB l.prog K d_nk = true)
    (ce_nk : cellB K c_nk a_nk = true)
    (ef_nk : efB K a_nk f_nk [.type "ValueError", .type "Exception", .type "BaseException", .type "object"] "ValueError.__new__" "ValueError.__init__" "ValueError" ["what", "who"] = true)
    (e_nw : PySem.W.nsIn K mainGlobals "NoWeb" = some (some (.ref a_nw)))
    (ek_nw : PySem.W.keepIn K (.ref a_nw) = true)
    (is_nw : isB K a_nw = true)
    (in_nw : PySem.W.findIn K (.ref a_nw) "__init__" = some (some (.ref f_nw)))
    (l_nw : K.lookup f_nw = some ⟨oc_nw, od_nw, .func (PySem.W.ksFn "__init__" "NoWeb.__init__" (defArgs i_nw) (defBody i_nw) (defScope i_nw) .none kV_nw dc_nw pm_nw an_nw (.ref d_nw) ct_nw c_nw), sl_nw⟩)
    (co_nw : PySem.W.codeIn K (.ref d_nw) "NoWeb.__init__" = true)
    (fi_nw : fileB l.prog K d_nw = true)
    (ce_nw : cellB K c_nw a_nw = true)
    (ef_nw : efB K a_nw f_nw [.type "ValueError", .type "Exception", .type "BaseException", .type "object"] "ValueError.__new__" "ValueError.__init__" "ValueError" ["what", "who"] = true)
    (e_nb : PySem.W.nsIn K mainGlobals "NoBook" = some (some (.ref a_nb)))
    (ek_nb : PySem.W.keepIn K (.ref a_nb) = true)
    (is_nb : isB K a_nb = true)
    (in_nb : PySem.W.findIn K (.ref a_nb) "__init__" = some (some (.ref f_nb)))
    (l_nb : K.lookup f_nb = some ⟨oc_nb, od_nb, .func (PySem.W.ksFn "__init__" "NoBook.__init__" (defArgs i_nb) (defBody i_nb) (defScope i_nb) .none kV_nb dc_nb pm_nb an_nb (.ref d_nb) ct_nb c_nb), sl_nb⟩)
    (co_nb : PySem.W.codeIn K (.ref d_nb) "NoBook.__init__" = true)
    (fi_nb : fileB l.prog K d_nb = true)
    (ce_nb : cellB K c_nb a_nb = true)
    (ef_nb : efB K a_nb f_nb [.type "ValueError", .type "Exception", .type "BaseException", .type "object"] "ValueError.__new__" "ValueError.__init__" "ValueError" ["what", "number"] = true)
    (e_nh : PySem.W.nsIn K mainGlobals "NoHeap" = some (some (.ref a_nh)))
    (ek_nh : PySem.W.keepIn K (.ref a_nh) = true)
    (is_nh : isB K a_nh = true)
    (in_nh : PySem.W.findIn K (.ref a_nh) "__init__" = some (some (.ref f_nh)))
    (l_nh : K.lookup f_nh = some ⟨oc_nh, od_nh, .func (PySem.W.ksFn "__init__" "NoHeap.__init__" (defArgs i_nh) (defBody i_nh) (defScope i_nh) .none kV_nh dc_nh pm_nh an_nh (.ref d_nh) ct_nh c_nh), sl_nh⟩)
    (co_nh : PySem.W.codeIn K (.ref d_nh) "NoHeap.__init__" = true)
    (fi_nh : fileB l.prog K d_nh = true)
    (ce_nh : cellB K c_nh a_nh = true)
    (ef_nh : efB K a_nh f_nh [.type "ValueError", .type "Exception", .type "BaseException", .type "object"] "ValueError.__new__" "ValueError.__init__" "ValueError" ["who"] = true)
    (e_nt : PySem.W.nsIn K mainGlobals "NoText" = some (some (.ref a_nt)))
    (ek_nt : PySem.W.keepIn K (.ref a_nt) = true)
    (is_nt : isB K a_nt = true)
    (ex_nt : PySem.W.excIn K a_nt [.type "ValueError", .type "Exception", .type "BaseException", .type "object"] "ValueError.__new__" = true)
    (e_nx : PySem.W.nsIn K mainGlobals "NoWish" = some (some (.ref a_nx)))
    (ek_nx : PySem.W.keepIn K (.ref a_nx) = true)
    (is_nx : isB K a_nx = true)
    (ex_nx : PySem.W.excIn K a_nx [.type "ValueError", .type "Exception", .type "BaseException", .type "object"] "ValueError.__new__" = true)
    (e_nc : PySem.W.nsIn K mainGlobals "NoCount" = some (some (.ref a_nc)))
    (ek_nc : PySem.W.keepIn K (.ref a_nc) = true)
    (is_nc : isB K a_nc = true)
    (ex_nc : PySem.W.excIn K a_nc [.type "ValueError", .type "Exception", .type "BaseException", .type "object"] "ValueError.__new__" = true)
    (e_nr : PySem.W.nsIn K mainGlobals "NoRow" = some (some (.ref a_nr)))
    (ek_nr : PySem.W.keepIn K (.ref a_nr) = true)
    (is_nr : isB K a_nr = true)
    (ex_nr : PySem.W.excIn K a_nr [.type "ValueError", .type "Exception", .type "BaseException", .type "object"] "ValueError.__new__" = true)
    (e_no : PySem.W.nsIn K mainGlobals "NoOne" = some (some (.ref a_no)))
    (ek_no : PySem.W.keepIn K (.ref a_no) = true)
    (is_no : isB K a_no = true)
    (in_no : PySem.W.findIn K (.ref a_no) "__init__" = some (some (.ref f_no)))
    (l_no : K.lookup f_no = some ⟨oc_no, od_no, .func (PySem.W.ksFn "__init__" "NoOne.__init__" (defArgs i_no) (defBody i_no) (defScope i_no) .none kV_no dc_no pm_no an_no (.ref d_no) ct_no c_no), sl_no⟩)
    (co_no : PySem.W.codeIn K (.ref d_no) "NoOne.__init__" = true)
    (fi_no : fileB l.prog K d_no = true)
    (ce_no : cellB K c_no a_no = true)
    (ef_no : efB K a_no f_no [.type "LookupError", .type "Exception", .type "BaseException", .type "object"] "LookupError.__new__" "LookupError.__init__" "LookupError" ["who"] = true)
    (e_ne : PySem.W.nsIn K mainGlobals "NoEnd" = some (some (.ref a_ne)))
    (ek_ne : PySem.W.keepIn K (.ref a_ne) = true)
    (is_ne : isB K a_ne = true)
    (in_ne : PySem.W.findIn K (.ref a_ne) "__init__" = some (some (.ref f_ne)))
    (l_ne : K.lookup f_ne = some ⟨oc_ne, od_ne, .func (PySem.W.ksFn "__init__" "NoEnd.__init__" (defArgs i_ne) (defBody i_ne) (defScope i_ne) .none kV_ne dc_ne pm_ne an_ne (.ref d_ne) ct_ne c_ne), sl_ne⟩)
    (co_ne : PySem.W.codeIn K (.ref d_ne) "NoEnd.__init__" = true)
    (fi_ne : fileB l.prog K d_ne = true)
    (ce_ne : cellB K c_ne a_ne = true)
    (ef_ne : efB K a_ne f_ne [.type "LookupError", .type "Exception", .type "BaseException", .type "object"] "LookupError.__new__" "LookupError.__init__" "LookupError" ["end"] = true)
    (e_ki : PySem.W.nsIn K mainGlobals "NoKind" = some (some (.ref a_ki)))
    (ek_ki : PySem.W.keepIn K (.ref a_ki) = true)
    (is_ki : isB K a_ki = true)
    (in_ki : PySem.W.findIn K (.ref a_ki) "__init__" = some (some (.ref f_ki)))
    (l_ki : K.lookup f_ki = some ⟨oc_ki, od_ki, .func (PySem.W.ksFn "__init__" "NoKind.__init__" (defArgs i_ki) (defBody i_ki) (defScope i_ki) .none kV_ki dc_ki pm_ki an_ki (.ref d_ki) ct_ki c_ki), sl_ki⟩)
    (co_ki : PySem.W.codeIn K (.ref d_ki) "NoKind.__init__" = true)
    (fi_ki : fileB l.prog K d_ki = true)
    (ce_ki : cellB K c_ki a_ki = true)
    (ef_ki : efB K a_ki f_ki [.type "KeyError", .type "LookupError", .type "Exception", .type "BaseException", .type "object"] "LookupError.__new__" "KeyError.__init__" "KeyError" ["word"] = true)
    (e_ru : PySem.W.nsIn K mainGlobals "NoRule" = some (some (.ref a_ru)))
    (ek_ru : PySem.W.keepIn K (.ref a_ru) = true)
    (is_ru : isB K a_ru = true)
    (in_ru : PySem.W.findIn K (.ref a_ru) "__init__" = some (some (.ref f_ru)))
    (l_ru : K.lookup f_ru = some ⟨oc_ru, od_ru, .func (PySem.W.ksFn "__init__" "NoRule.__init__" (defArgs i_ru) (defBody i_ru) (defScope i_ru) .none kV_ru dc_ru pm_ru an_ru (.ref d_ru) ct_ru c_ru), sl_ru⟩)
    (co_ru : PySem.W.codeIn K (.ref d_ru) "NoRule.__init__" = true)
    (fi_ru : fileB l.prog K d_ru = true)
    (ce_ru : cellB K c_ru a_ru = true)
    (ef_ru : efB K a_ru f_ru [.type "KeyError", .type "LookupError", .type "Exception", .type "BaseException", .type "object"] "LookupError.__new__" "KeyError.__init__" "KeyError" ["pair"] = true)
    (e_su : PySem.W.nsIn K mainGlobals "NoSuch" = some (some (.ref a_su)))
    (ek_su : PySem.W.keepIn K (.ref a_su) = true)
    (is_su : isB K a_su = true)
    (in_su : PySem.W.findIn K (.ref a_su) "__init__" = some (some (.ref f_su)))
    (l_su : K.lookup f_su = some ⟨oc_su, od_su, .func (PySem.W.ksFn "__init__" "NoSuch.__init__" (defArgs i_su) (defBody i_su) (defScope i_su) .none kV_su dc_su pm_su an_su (.ref d_su) ct_su c_su), sl_su⟩)
    (co_su : PySem.W.codeIn K (.ref d_su) "NoSuch.__init__" = true)
    (fi_su : fileB l.prog K d_su = true)
    (ce_su : cellB K c_su a_su = true)
    (ef_su : efB K a_su f_su [.type "KeyError", .type "LookupError", .type "Exception", .type "BaseException", .type "object"] "LookupError.__new__" "KeyError.__init__" "KeyError" ["who"] = true)
    (e_me : PySem.W.nsIn K mainGlobals "NoMeeting" = some (some (.ref a_me)))
    (ek_me : PySem.W.keepIn K (.ref a_me) = true)
    (is_me : isB K a_me = true)
    (in_me : PySem.W.findIn K (.ref a_me) "__init__" = some (some (.ref f_me)))
    (l_me : K.lookup f_me = some ⟨oc_me, od_me, .func (PySem.W.ksFn "__init__" "NoMeeting.__init__" (defArgs i_me) (defBody i_me) (defScope i_me) .none kV_me dc_me pm_me an_me (.ref d_me) ct_me c_me), sl_me⟩)
    (co_me : PySem.W.codeIn K (.ref d_me) "NoMeeting.__init__" = true)
    (fi_me : fileB l.prog K d_me = true)
    (ce_me : cellB K c_me a_me = true)
    (ef_me : efB K a_me f_me [.type "RuntimeError", .type "Exception", .type "BaseException", .type "object"] "RuntimeError.__new__" "RuntimeError.__init__" "RuntimeError" ["who"] = true)
    (e_ca : PySem.W.nsIn K mainGlobals "Caused" = some (some (.ref a_ca)))
    (ek_ca : PySem.W.keepIn K (.ref a_ca) = true)
    (is_ca : isB K a_ca = true)
    (in_ca : PySem.W.findIn K (.ref a_ca) "__init__" = some (some (.ref f_ca)))
    (l_ca : K.lookup f_ca = some ⟨oc_ca, od_ca, .func (PySem.W.ksFn "__init__" "Caused.__init__" (defArgs i_ca) (defBody i_ca) (defScope i_ca) .none kV_ca dc_ca pm_ca an_ca (.ref d_ca) ct_ca c_ca), sl_ca⟩)
    (co_ca : PySem.W.codeIn K (.ref d_ca) "Caused.__init__" = true)
    (fi_ca : fileB l.prog K d_ca = true)
    (ce_ca : cellB K c_ca a_ca = true)
    (ef_ca : efB K a_ca f_ca [.type "RuntimeError", .type "Exception", .type "BaseException", .type "object"] "RuntimeError.__new__" "RuntimeError.__init__" "RuntimeError" ["by"] = true)
    (e_un : PySem.W.nsIn K mainGlobals "Unlike" = some (some (.ref a_un)))
    (ek_un : PySem.W.keepIn K (.ref a_un) = true)
    (is_un : isB K a_un = true)
    (ex_un : PySem.W.excIn K a_un [.type "RuntimeError", .type "Exception", .type "BaseException", .type "object"] "RuntimeError.__new__" = true)
    (e_tm : PySem.W.nsIn K mainGlobals "TooMany" = some (some (.ref a_tm)))
    (ek_tm : PySem.W.keepIn K (.ref a_tm) = true)
    (is_tm : isB K a_tm = true)
    (in_tm : PySem.W.findIn K (.ref a_tm) "__init__" = some (some (.ref f_tm)))
    (l_tm : K.lookup f_tm = some ⟨oc_tm, od_tm, .func (PySem.W.ksFn "__init__" "TooMany.__init__" (defArgs i_tm) (defBody i_tm) (defScope i_tm) .none kV_tm dc_tm pm_tm an_tm (.ref d_tm) ct_tm c_tm), sl_tm⟩)
    (co_tm : PySem.W.codeIn K (.ref d_tm) "TooMany.__init__" = true)
    (fi_tm : fileB l.prog K d_tm = true)
    (ce_tm : cellB K c_tm a_tm = true)
    (ef_tm : efB K a_tm f_tm [.type "ArithmeticError", .type "Exception", .type "BaseException", .type "object"] "ArithmeticError.__new__" "ArithmeticError.__init__" "ArithmeticError" ["limit"] = true)
    (t_fe : tests K ⟨a_fe, a_nk, a_nw, a_nb, a_nh, a_nt, a_nx, a_nc, a_nr, a_no, a_ne, a_ki, a_ru, a_su, a_me, a_ca, a_un, a_tm⟩ a_fe = (bsOf [0, 1]).map some)
    (t_nk : tests K ⟨a_fe, a_nk, a_nw, a_nb, a_nh, a_nt, a_nx, a_nc, a_nr, a_no, a_ne, a_ki, a_ru, a_su, a_me, a_ca, a_un, a_tm⟩ a_nk = (bsOf [0, 1, 2]).map some)
    (t_nw : tests K ⟨a_fe, a_nk, a_nw, a_nb, a_nh, a_nt, a_nx, a_nc, a_nr, a_no, a_ne, a_ki, a_ru, a_su, a_me, a_ca, a_un, a_tm⟩ a_nw = (bsOf [0, 1, 3]).map some)
    (t_nb : tests K ⟨a_fe, a_nk, a_nw, a_nb, a_nh, a_nt, a_nx, a_nc, a_nr, a_no, a_ne, a_ki, a_ru, a_su, a_me, a_ca, a_un, a_tm⟩ a_nb = (bsOf [0, 1, 4]).map some)
    (t_nh : tests K ⟨a_fe, a_nk, a_nw, a_nb, a_nh, a_nt, a_nx, a_nc, a_nr, a_no, a_ne, a_ki, a_ru, a_su, a_me, a_ca, a_un, a_tm⟩ a_nh = (bsOf [0, 1, 5]).map some)
    (t_nt : tests K ⟨a_fe, a_nk, a_nw, a_nb, a_nh, a_nt, a_nx, a_nc, a_nr, a_no, a_ne, a_ki, a_ru, a_su, a_me, a_ca, a_un, a_tm⟩ a_nt = (bsOf [0, 1, 6]).map some)
    (t_nx : tests K ⟨a_fe, a_nk, a_nw, a_nb, a_nh, a_nt, a_nx, a_nc, a_nr, a_no, a_ne, a_ki, a_ru, a_su, a_me, a_ca, a_un, a_tm⟩ a_nx = (bsOf [0, 1, 7]).map some)
    (t_nc : tests K ⟨a_fe, a_nk, a_nw, a_nb, a_nh, a_nt, a_nx, a_nc, a_nr, a_no, a_ne, a_ki, a_ru, a_su, a_me, a_ca, a_un, a_tm⟩ a_nc = (bsOf [0, 1, 8]).map some)
    (t_nr : tests K ⟨a_fe, a_nk, a_nw, a_nb, a_nh, a_nt, a_nx, a_nc, a_nr, a_no, a_ne, a_ki, a_ru, a_su, a_me, a_ca, a_un, a_tm⟩ a_nr = (bsOf [0, 1, 9]).map some)
    (t_no : tests K ⟨a_fe, a_nk, a_nw, a_nb, a_nh, a_nt, a_nx, a_nc, a_nr, a_no, a_ne, a_ki, a_ru, a_su, a_me, a_ca, a_un, a_tm⟩ a_no = (bsOf [10, 11]).map some)
    (t_ne : tests K ⟨a_fe, a_nk, a_nw, a_nb, a_nh, a_nt, a_nx, a_nc, a_nr, a_no, a_ne, a_ki, a_ru, a_su, a_me, a_ca, a_un, a_tm⟩ a_ne = (bsOf [10, 12]).map some)
    (t_ki : tests K ⟨a_fe, a_nk, a_nw, a_nb, a_nh, a_nt, a_nx, a_nc, a_nr, a_no, a_ne, a_ki, a_ru, a_su, a_me, a_ca, a_un, a_tm⟩ a_ki = (bsOf [10, 13, 14]).map some)
    (t_ru : tests K ⟨a_fe, a_nk, a_nw, a_nb, a_nh, a_nt, a_nx, a_nc, a_nr, a_no, a_ne, a_ki, a_ru, a_su, a_me, a_ca, a_un, a_tm⟩ a_ru = (bsOf [10, 13, 15]).map some)
    (t_su : tests K ⟨a_fe, a_nk, a_nw, a_nb, a_nh, a_nt, a_nx, a_nc, a_nr, a_no, a_ne, a_ki, a_ru, a_su, a_me, a_ca, a_un, a_tm⟩ a_su = (bsOf [10, 13, 16]).map some)
    (t_me : tests K ⟨a_fe, a_nk, a_nw, a_nb, a_nh, a_nt, a_nx, a_nc, a_nr, a_no, a_ne, a_ki, a_ru, a_su, a_me, a_ca, a_un, a_tm⟩ a_me = (bsOf [17, 18]).map some)
    (t_ca : tests K ⟨a_fe, a_nk, a_nw, a_nb, a_nh, a_nt, a_nx, a_nc, a_nr, a_no, a_ne, a_ki, a_ru, a_su, a_me, a_ca, a_un, a_tm⟩ a_ca = (bsOf [17, 19]).map some)
    (t_un : tests K ⟨a_fe, a_nk, a_nw, a_nb, a_nh, a_nt, a_nx, a_nc, a_nr, a_no, a_ne, a_ki, a_ru, a_su, a_me, a_ca, a_un, a_tm⟩ a_un = (bsOf [17, 20]).map some)
    (t_tm : tests K ⟨a_fe, a_nk, a_nw, a_nb, a_nh, a_nt, a_nx, a_nc, a_nr, a_no, a_ne, a_ki, a_ru, a_su, a_me, a_ca, a_un, a_tm⟩ a_tm = (bsOf [21, 22]).map some)
    (tp : topB l.prog = true)
    : ∃ fd : FuncData, (∀ (s : Shared) (v : Value), BindsTo s fd ⟨[v], []⟩ [("_law_script", v)]) ∧ ∀ base : Heap, K.In base → base.Ns mainGlobals mg → FnG l.prog w K mg base 5 fa fd ["_law_script"] (spLaw K) := by
  have e := hfa.symm.trans (PySem.W.mg_of X G a6)
  cases e
  have T : Txt mg := ⟨PySem.W.mg_none_of X G z0, PySem.W.mg_none_of X G z1, PySem.W.mg_none_of X G z2, PySem.W.mg_none_of X G z3, PySem.W.mg_none_of X G z4, PySem.W.mg_none_of X G z5, PySem.W.mg_none_of X G z6, PySem.W.mg_none_of X G z7, PySem.W.mg_none_of X G z8, PySem.W.mg_none_of X G z9, PySem.W.mg_none_of X G z10, PySem.W.mg_none_of X G z11, PySem.W.mg_none_of X G z12, PySem.W.mg_none_of X G z13, PySem.W.mg_none_of X G z14, PySem.W.mg_none_of X G z15, PySem.W.mg_none_of X G z16, PySem.W.mg_none_of X G z17, PySem.W.mg_none_of X G z18, PySem.W.mg_none_of X G z19, PySem.W.mg_none_of X G z20⟩
  have tp2 : (l.prog.main.scope.names.lookup ("super" : Str)).isSome = false := by unfold topB at tp; simpa using tp
  let E : Errs := ⟨a_fe, a_nk, a_nw, a_nb, a_nh, a_nt, a_nx, a_nc, a_nr, a_no, a_ne, a_ki, a_ru, a_su, a_me, a_ca, a_un, a_tm⟩
  have M_fe : MkT l.prog w K mg a_fe := mkt_of PySem.F.excBase_ValueError ex_fe
  have C_fe : EcF K mg E "FacerError" a_fe [0, 1] := ⟨PySem.W.mg_of X G e_fe, ek_fe, isB_ok is_fe, t_fe⟩
  have P_nk := efB_ok (BN := "ValueError") ⟨by decide +kernel, by decide +kernel, by decide +kernel⟩ ef_nk
  have FI_nk : FnI l.prog K a_nk f_nk d_nk c_nk "NoKinds.__init__" (defArgs i_nk) (defBody i_nk) (defScope i_nk) := ⟨⟨_, _, _, _, _, _, _, _, l_nk⟩, co_nk, fileB_ok fi_nk, cellB_ok ce_nk, by decide +kernel, by decide +kernel, by decide +kernel, rfl, rfl, rfl, by decide +kernel, tp2, ⟨_, rfl, rfl⟩⟩
  have M_nk : MkE l.prog w K mg a_nk ["what", "who"] okTwo (sh2 "what" "who") := mke_two PySem.F.excBase_ValueError (.of PySem.F.excCall_ValueError PySem.W.kxs_ValueError) P_nk.c PySem.F.store_ValueError P_nk.s FI_nk in_nk P_nk.t T.sup rfl (fun L => ⟨rfl, rfl, rfl, ⟨_, rfl⟩⟩) (fun L => rfl) (fun L => rfl) (by decide +kernel) (by decide) (by decide) (P_nk.f _ (by decide)).2 (by decide) (by decide +kernel) (by decide) (by decide) (P_nk.f _ (by decide)).2 (by decide) (fun _ _ _ _ _ _ _ _ => rfl) (fun _ _ _ _ _ _ _ _ => rfl)
  have C_nk : EcF K mg E "NoKinds" a_nk [0, 1, 2] := ⟨PySem.W.mg_of X G e_nk, ek_nk, isB_ok is_nk, t_nk⟩
  have P_nw := efB_ok (BN := "ValueError") ⟨by decide +kernel, by decide +kernel, by decide +kernel⟩ ef_nw
  have FI_nw : FnI l.prog K a_nw f_nw d_nw c_nw "NoWeb.__init__" (defArgs i_nw) (defBody i_nw) (defScope i_nw) := ⟨⟨_, _, _, _, _, _, _, _, l_nw⟩, co_nw, fileB_ok fi_nw, cellB_ok ce_nw, by decide +kernel, by decide +kernel, by decide +kernel, rfl, rfl, rfl, by decide +kernel, tp2, ⟨_, rfl, rfl⟩⟩
  have M_nw : MkE l.prog w K mg a_nw ["what", "who"] okTwo (sh2 "what" "who") := mke_two PySem.F.excBase_ValueError (.of PySem.F.excCall_ValueError PySem.W.kxs_ValueError) P_nw.c PySem.F.store_ValueError P_nw.s FI_nw in_nw P_nw.t T.sup rfl (fun L => ⟨rfl, rfl, rfl, ⟨_, rfl⟩⟩) (fun L => rfl) (fun L => rfl) (by decide +kernel) (by decide) (by decide) (P_nw.f _ (by decide)).2 (by decide) (by decide +kernel) (by decide) (by decide) (P_nw.f _ (by decide)).2 (by decide) (fun _ _ _ _ _ _ _ _ => rfl) (fun _ _ _ _ _ _ _ _ => rfl)
  have C_nw : EcF K mg E "NoWeb" a_nw [0, 1, 3] := ⟨PySem.W.mg_of X G e_nw, ek_nw, isB_ok is_nw, t_nw⟩
  have P_nb := efB_ok (BN := "ValueError") ⟨by decide +kernel, by decide +kernel, by decide +kernel⟩ ef_nb
  have FI_nb : FnI l.prog K a_nb f_nb d_nb c_nb "NoBook.__init__" (defArgs i_nb) (defBody i_nb) (defScope i_nb) := ⟨⟨_, _, _, _, _, _, _, _, l_nb⟩, co_nb, fileB_ok fi_nb, cellB_ok ce_nb, by decide +kernel, by decide +kernel, by decide +kernel, rfl, rfl, rfl, by decide +kernel, tp2, ⟨_, rfl, rfl⟩⟩
  have M_nb : MkE l.prog w K mg a_nb ["what", "number"] okTwo (sh2 "what" "number") := mke_two PySem.F.excBase_ValueError (.of PySem.F.excCall_ValueError PySem.W.kxs_ValueError) P_nb.c PySem.F.store_ValueError P_nb.s FI_nb in_nb P_nb.t T.sup rfl (fun L => ⟨rfl, rfl, rfl, ⟨_, rfl⟩⟩) (fun L => rfl) (fun L => rfl) (by decide +kernel) (by decide) (by decide) (P_nb.f _ (by decide)).2 (by decide) (by decide +kernel) (by decide) (by decide) (P_nb.f _ (by decide)).2 (by decide) (fun _ _ _ _ _ _ _ _ => rfl) (fun _ _ _ _ _ _ _ _ => rfl)
  have C_nb : EcF K mg E "NoBook" a_nb [0, 1, 4] := ⟨PySem.W.mg_of X G e_nb, ek_nb, isB_ok is_nb, t_nb⟩
  have P_nh := efB_ok (BN := "ValueError") ⟨by decide +kernel, by decide +kernel, by decide +kernel⟩ ef_nh
  have FI_nh : FnI l.prog K a_nh f_nh d_nh c_nh "NoHeap.__init__" (defArgs i_nh) (defBody i_nh) (defScope i_nh) := ⟨⟨_, _, _, _, _, _, _, _, l_nh⟩, co_nh, fileB_ok fi_nh, cellB_ok ce_nh, by decide +kernel, by decide +kernel, by decide +kernel, rfl, rfl, rfl, by decide +kernel, tp2, ⟨_, rfl, rfl⟩⟩
  have M_nh : MkE l.prog w K mg a_nh ["who"] (fun _ => True) (sh1 "who") := mke_one PySem.F.excBase_ValueError (.of PySem.F.excCall_ValueError PySem.W.kxs_ValueError) P_nh.c PySem.F.store_ValueError P_nh.s FI_nh in_nh P_nh.t T.sup rfl (fun L => ⟨rfl, rfl, rfl, ⟨_, rfl⟩⟩) (fun L => rfl) (by decide +kernel) (by decide) (by decide) (P_nh.f _ (by decide)).2 (fun _ _ _ _ _ _ _ => rfl) (fun _ _ _ _ _ _ _ => rfl)
  have C_nh : EcF K mg E "NoHeap" a_nh [0, 1, 5] := ⟨PySem.W.mg_of X G e_nh, ek_nh, isB_ok is_nh, t_nh⟩
  have M_nt : MkT l.prog w K mg a_nt := mkt_of PySem.F.excBase_ValueError ex_nt
  have C_nt : EcF K mg E "NoText" a_nt [0, 1, 6] := ⟨PySem.W.mg_of X G e_nt, ek_nt, isB_ok is_nt, t_nt⟩
  have M_nx : MkT l.prog w K mg a_nx := mkt_of PySem.F.excBase_ValueError ex_nx
  have C_nx : EcF K mg E "NoWish" a_nx [0, 1, 7] := ⟨PySem.W.mg_of X G e_nx, ek_nx, isB_ok is_nx, t_nx⟩
  have M_nc : MkT l.prog w K mg a_nc := mkt_of PySem.F.excBase_ValueError ex_nc
  have C_nc : EcF K mg E "NoCount" a_nc [0, 1, 8] := ⟨PySem.W.mg_of X G e_nc, ek_nc, isB_ok is_nc, t_nc⟩
  have M_nr : MkT l.prog w K mg a_nr := mkt_of PySem.F.excBase_ValueError ex_nr
  have C_nr : EcF K mg E "NoRow" a_nr [0, 1, 9] := ⟨PySem.W.mg_of X G e_nr, ek_nr, isB_ok is_nr, t_nr⟩
  have P_no := efB_ok (BN := "LookupError") ⟨by decide +kernel, by decide +kernel, by decide +kernel⟩ ef_no
  have FI_no : FnI l.prog K a_no f_no d_no c_no "NoOne.__init__" (defArgs i_no) (defBody i_no) (defScope i_no) := ⟨⟨_, _, _, _, _, _, _, _, l_no⟩, co_no, fileB_ok fi_no, cellB_ok ce_no, by decide +kernel, by decide +kernel, by decide +kernel, rfl, rfl, rfl, by decide +kernel, tp2, ⟨_, rfl, rfl⟩⟩
  have M_no : MkE l.prog w K mg a_no ["who"] (fun _ => True) (sh1 "who") := mke_one PySem.F.excBase_LookupError (.of PySem.F.excCall_LookupError PySem.W.kxs_LookupError) P_no.c PySem.F.store_LookupError P_no.s FI_no in_no P_no.t T.sup rfl (fun L => ⟨rfl, rfl, rfl, ⟨_, rfl⟩⟩) (fun L => rfl) (by decide +kernel) (by decide) (by decide) (P_no.f _ (by decide)).2 (fun _ _ _ _ _ _ _ => rfl) (fun _ _ _ _ _ _ _ => rfl)
  have C_no : EcF K mg E "NoOne" a_no [10, 11] := ⟨PySem.W.mg_of X G e_no, ek_no, isB_ok is_no, t_no⟩
  have P_ne := efB_ok (BN := "LookupError") ⟨by decide +kernel, by decide +kernel, by decide +kernel⟩ ef_ne
  have FI_ne : FnI l.prog K a_ne f_ne d_ne c_ne "NoEnd.__init__" (defArgs i_ne) (defBody i_ne) (defScope i_ne) := ⟨⟨_, _, _, _, _, _, _, _, l_ne⟩, co_ne, fileB_ok fi_ne, cellB_ok ce_ne, by decide +kernel, by decide +kernel, by decide +kernel, rfl, rfl, rfl, by decide +kernel, tp2, ⟨_, rfl, rfl⟩⟩
  have M_ne : MkE l.prog w K mg a_ne ["end"] (fun _ => True) (sh1 "end") := mke_one PySem.F.excBase_LookupError (.of PySem.F.excCall_LookupError PySem.W.kxs_LookupError) P_ne.c PySem.F.store_LookupError P_ne.s FI_ne in_ne P_ne.t T.sup rfl (fun L => ⟨rfl, rfl, rfl, ⟨_, rfl⟩⟩) (fun L => rfl) (by decide +kernel) (by decide) (by decide) (P_ne.f _ (by decide)).2 (fun _ _ _ _ _ _ _ => rfl) (fun _ _ _ _ _ _ _ => rfl)
  have C_ne : EcF K mg E "NoEnd" a_ne [10, 12] := ⟨PySem.W.mg_of X G e_ne, ek_ne, isB_ok is_ne, t_ne⟩
  have P_ki := efB_ok (BN := "LookupError") ⟨by decide +kernel, by decide +kernel, by decide +kernel⟩ ef_ki
  have FI_ki : FnI l.prog K a_ki f_ki d_ki c_ki "NoKind.__init__" (defArgs i_ki) (defBody i_ki) (defScope i_ki) := ⟨⟨_, _, _, _, _, _, _, _, l_ki⟩, co_ki, fileB_ok fi_ki, cellB_ok ce_ki, by decide +kernel, by decide +kernel, by decide +kernel, rfl, rfl, rfl, by decide +kernel, tp2, ⟨_, rfl, rfl⟩⟩
  have M_ki : MkE l.prog w K mg a_ki ["word"] (fun _ => True) (sh1 "word") := mke_one PySem.F.excBase_LookupError ini_Key P_ki.c PySem.F.keyStore P_ki.s FI_ki in_ki P_ki.t T.sup rfl (fun L => ⟨rfl, rfl, rfl, ⟨_, rfl⟩⟩) (fun L => rfl) (by decide +kernel) (by decide) (by decide) (P_ki.f _ (by decide)).2 (fun _ _ _ _ _ _ _ => rfl) (fun _ _ _ _ _ _ _ => rfl)
  have C_ki : EcF K mg E "NoKind" a_ki [10, 13, 14] := ⟨PySem.W.mg_of X G e_ki, ek_ki, isB_ok is_ki, t_ki⟩
  have P_ru := efB_ok (BN := "LookupError") ⟨by decide +kernel, by decide +kernel, by decide +kernel⟩ ef_ru
  have FI_ru : FnI l.prog K a_ru f_ru d_ru c_ru "NoRule.__init__" (defArgs i_ru) (defBody i_ru) (defScope i_ru) := ⟨⟨_, _, _, _, _, _, _, _, l_ru⟩, co_ru, fileB_ok fi_ru, cellB_ok ce_ru, by decide +kernel, by decide +kernel, by decide +kernel, rfl, rfl, rfl, by decide +kernel, tp2, ⟨_, rfl, rfl⟩⟩
  have M_ru : MkE l.prog w K mg a_ru ["pair"] (fun _ => True) (sh1 "pair") := mke_one PySem.F.excBase_LookupError ini_Key P_ru.c PySem.F.keyStore P_ru.s FI_ru in_ru P_ru.t T.sup rfl (fun L => ⟨rfl, rfl, rfl, ⟨_, rfl⟩⟩) (fun L => rfl) (by decide +kernel) (by decide) (by decide) (P_ru.f _ (by decide)).2 (fun _ _ _ _ _ _ _ => rfl) (fun _ _ _ _ _ _ _ => rfl)
  have C_ru : EcF K mg E "NoRule" a_ru [10, 13, 15] := ⟨PySem.W.mg_of X G e_ru, ek_ru, isB_ok is_ru, t_ru⟩
  have P_su := efB_ok (BN := "LookupError") ⟨by decide +kernel, by decide +kernel, by decide +kernel⟩ ef_su
  have FI_su : FnI l.prog K a_su f_su d_su c_su "NoSuch.__init__" (defArgs i_su) (defBody i_su) (defScope i_su) := ⟨⟨_, _, _, _, _, _, _, _, l_su⟩, co_su, fileB_ok fi_su, cellB_ok ce_su, by decide +kernel, by decide +kernel, by decide +kernel, rfl, rfl, rfl, by decide +kernel, tp2, ⟨_, rfl, rfl⟩⟩
  have M_su : MkE l.prog w K mg a_su ["who"] (fun _ => True) (sh1 "who") := mke_one PySem.F.excBase_LookupError ini_Key P_su.c PySem.F.keyStore P_su.s FI_su in_su P_su.t T.sup rfl (fun L => ⟨rfl, rfl, rfl, ⟨_, rfl⟩⟩) (fun L => rfl) (by decide +kernel) (by decide) (by decide) (P_su.f _ (by decide)).2 (fun _ _ _ _ _ _ _ => rfl) (fun _ _ _ _ _ _ _ => rfl)
  have C_su : EcF K mg E "NoSuch" a_su [10, 13, 16] := ⟨PySem.W.mg_of X G e_su, ek_su, isB_ok is_su, t_su⟩
  have P_me := efB_ok (BN := "RuntimeError") ⟨by decide +kernel, by decide +kernel, by decide +kernel⟩ ef_me
  have FI_me : FnI l.prog K a_me f_me d_me c_me "NoMeeting.__init__" (defArgs i_me) (defBody i_me) (defScope i_me) := ⟨⟨_, _, _, _, _, _, _, _, l_me⟩, co_me, fileB_ok fi_me, cellB_ok ce_me, by decide +kernel, by decide +kernel, by decide +kernel, rfl, rfl, rfl, by decide +kernel, tp2, ⟨_, rfl, rfl⟩⟩
  have M_me : MkE l.prog w K mg a_me ["who"] (fun _ => True) (sh1 "who") := mke_one PySem.F.excBase_RuntimeError (.of PySem.F.excCall_RuntimeError PySem.W.kxs_RuntimeError) P_me.c PySem.F.store_RuntimeError P_me.s FI_me in_me P_me.t T.sup rfl (fun L => ⟨rfl, rfl, rfl, ⟨_, rfl⟩⟩) (fun L => rfl) (by decide +kernel) (by decide) (by decide) (P_me.f _ (by decide)).2 (fun _ _ _ _ _ _ _ => rfl) (fun _ _ _ _ _ _ _ => rfl)
  have C_me : EcF K mg E "NoMeeting" a_me [17, 18] := ⟨PySem.W.mg_of X G e_me, ek_me, isB_ok is_me, t_me⟩
  have P_ca := efB_ok (BN := "RuntimeError") ⟨by decide +kernel, by decide +kernel, by decide +kernel⟩ ef_ca
  have FI_ca : FnI l.prog K a_ca f_ca d_ca c_ca "Caused.__init__" (defArgs i_ca) (defBody i_ca) (defScope i_ca) := ⟨⟨_, _, _, _, _, _, _, _, l_ca⟩, co_ca, fileB_ok fi_ca, cellB_ok ce_ca, by decide +kernel, by decide +kernel, by decide +kernel, rfl, rfl, rfl, by decide +kernel, tp2, ⟨_, rfl, rfl⟩⟩
  have M_ca : MkE l.prog w K mg a_ca ["by"] (fun _ => True) (sh1 "by") := mke_one PySem.F.excBase_RuntimeError (.of PySem.F.excCall_RuntimeError PySem.W.kxs_RuntimeError) P_ca.c PySem.F.store_RuntimeError P_ca.s FI_ca in_ca P_ca.t T.sup rfl (fun L => ⟨rfl, rfl, rfl, ⟨_, rfl⟩⟩) (fun L => rfl) (by decide +kernel) (by decide) (by decide) (P_ca.f _ (by decide)).2 (fun _ _ _ _ _ _ _ => rfl) (fun _ _ _ _ _ _ _ => rfl)
  have C_ca : EcF K mg E "Caused" a_ca [17, 19] := ⟨PySem.W.mg_of X G e_ca, ek_ca, isB_ok is_ca, t_ca⟩
  have M_un : MkT l.prog w K mg a_un := mkt_of PySem.F.excBase_RuntimeError ex_un
  have C_un : EcF K mg E "Unlike" a_un [17, 20] := ⟨PySem.W.mg_of X G e_un, ek_un, isB_ok is_un, t_un⟩
  have P_tm := efB_ok (BN := "ArithmeticError") ⟨by decide +kernel, by decide +kernel, by decide +kernel⟩ ef_tm
  have FI_tm : FnI l.prog K a_tm f_tm d_tm c_tm "TooMany.__init__" (defArgs i_tm) (defBody i_tm) (defScope i_tm) := ⟨⟨_, _, _, _, _, _, _, _, l_tm⟩, co_tm, fileB_ok fi_tm, cellB_ok ce_tm, by decide +kernel, by decide +kernel, by decide +kernel, rfl, rfl, rfl, by decide +kernel, tp2, ⟨_, rfl, rfl⟩⟩
  have M_tm : MkE l.prog w K mg a_tm ["limit"] (fun _ => True) (sh1 "limit") := mke_one PySem.F.excBase_ArithmeticError (.of PySem.F.excCall_ArithmeticError PySem.W.kxs_ArithmeticError) P_tm.c PySem.F.store_ArithmeticError P_tm.s FI_tm in_tm P_tm.t T.sup rfl (fun L => ⟨rfl, rfl, rfl, ⟨_, rfl⟩⟩) (fun L => rfl) (by decide +kernel) (by decide) (by decide) (P_tm.f _ (by decide)).2 (fun _ _ _ _ _ _ _ => rfl) (fun _ _ _ _ _ _ _ => rfl)
  have C_tm : EcF K mg E "TooMany" a_tm [21, 22] := ⟨PySem.W.mg_of X G e_tm, ek_tm, isB_ok is_tm, t_tm⟩
  have R : Ers l.prog w K mg E := ⟨C_fe, M_fe, C_nk, M_nk, P_nk.x, (P_nk.f _ (by decide)).1, (P_nk.f _ (by decide)).1, C_nw, M_nw, P_nw.x, (P_nw.f _ (by decide)).1, (P_nw.f _ (by decide)).1, C_nb, M_nb, P_nb.x, (P_nb.f _ (by decide)).1, (P_nb.f _ (by decide)).1, C_nh, M_nh, P_nh.x, (P_nh.f _ (by decide)).1, C_nt, M_nt, C_nx, M_nx, C_nc, M_nc, C_nr, M_nr, C_no, M_no, P_no.x, (P_no.f _ (by decide)).1, C_ne, M_ne, P_ne.x, (P_ne.f _ (by decide)).1, C_ki, M_ki, P_ki.x, (P_ki.f _ (by decide)).1, C_ru, M_ru, P_ru.x, (P_ru.f _ (by decide)).1, C_su, M_su, P_su.x, (P_su.f _ (by decide)).1, C_me, M_me, P_me.x, (P_me.f _ (by decide)).1, C_ca, M_ca, P_ca.x, (P_ca.f _ (by decide)).1, C_un, M_un, C_tm, M_tm, P_tm.x, (P_tm.f _ (by decide)).1⟩
  have F0 := fun_mk (st := sPot) l0 c0 k0
  have b0 := F0.binds (ps := ["_law_script", "_law_k"]) fun _ _ _ _ _ _ us hl => match us, hl with | [_, _], _ => rfl
  have F1 := fun_mk (st := sTake) l1 c1 k1
  have b1 := F1.binds (ps := ["_law_pot_here", "_law_much"]) fun _ _ _ _ _ _ us hl => match us, hl with | [_, _], _ => rfl
  have F2 := fun_mk (st := sOdd) l2 c2 k2
  have b2 := F2.binds (ps := ["_law_pot_here"]) fun _ _ _ _ _ _ us hl => match us, hl with | [_], _ => rfl
  have F3 := fun_mk (st := sUnder) l3 c3 k3
  have b3 := F3.binds (ps := ["_law_e"]) fun _ _ _ _ _ _ us hl => match us, hl with | [_], _ => rfl
  have F4 := fun_mk (st := sStands) l4 c4 k4
  have b4 := F4.binds (ps := ["_law_e", "_law_places"]) fun _ _ _ _ _ _ us hl => match us, hl with | [_, _], _ => rfl
  have F5 := fun_mk (st := sFields) l5 c5 k5
  have b5 := F5.binds (ps := ["_law_one", "_law_other"]) fun _ _ _ _ _ _ us hl => match us, hl with | [_, _], _ => rfl
  have F6 := fun_mk (st := sLaw) l6 c6 k6
  refine ⟨PySem.W.fnOf "law" "law" (defArgs sLaw) (defBody sLaw) (defScope sLaw) .none kV6 dc6 pm6 an6 cd6 ct6, fun s v => .of_eq rfl, fun base _ _ => ?_⟩
  have O0 : Own l.prog w K mg base "_law_pot" 1 (spPot K) := ⟨_, _, _, ok_pot F0 T , PySem.W.mg_of X G a0, k0, b0⟩
  have O1 : Own l.prog w K mg base "_law_take" 1 spTake := ⟨_, _, _, ok_take F1 T , PySem.W.mg_of X G a1, k1, b1⟩
  have O2 : Own l.prog w K mg base "_law_odd" 2 spOdd := ⟨_, _, _, ok_odd F2 T O1, PySem.W.mg_of X G a2, k2, b2⟩
  have O3 : Own l.prog w K mg base "_law_under" 1 (spUnder K E) := ⟨_, _, _, ok_under F3 T R, PySem.W.mg_of X G a3, k3, b3⟩
  have O4 : Own l.prog w K mg base "_law_stands" 2 (spStands K E) := ⟨_, _, _, ok_stands F4 T O3, PySem.W.mg_of X G a4, k4, b4⟩
  have O5 : Own l.prog w K mg base "_law_fields_right" 4 spFields := ⟨_, _, _, ok_fields F5 T R, PySem.W.mg_of X G a5, k5, b5⟩
  exact ok_law F6 T R O0 O1 O2 O4 O5
theorem lawSp (K : PySem.W.Frag) (H : Hp) (a : Addr) (ns : List Int) (hl : ns.length ≤ 63) (h : SqL K H a (ns.map V.int)) : spLaw K [.ref a] H (fun v _ => v = .bl true) fun _ _ _ => False := by
  refine ⟨H, [.sc K a ns], fun _ => none, .cons ⟨rfl, h⟩ .nil, Ex.refl H, nofun, ⟨a, ns, rfl, hl⟩, ?_⟩
  rintro v r B' H' μ' I q rfl
  cases q
  rfl
end K19

set_option Elab.async false
set_option linter.all false
set_option maxRecDepth 100000
set_option maxHeartbeats 4000000

open PySem PySem.W PyProof.Rows in
set_option maxRecDepth 100000 in
set_option maxHeartbeats 0 in
theorem PySem.Challenge.cw_onefacers_k19_errors_made_holds : PySem.Challenge.rw_onefacers_k19_errors_made.Holds := by
  w_on; o_law; k_head; (case hw => w_witness2)
  k_fill
  refine Dat.walk_data (l := PySem.Challenge.rw_onefacers_k19_errors_made) (n := 63) (k := 5) (x := "_law_script") (SP := fun K => K19.spLaw K) rfl (by decide) rfl ⟨rfl, by decide, by decide⟩ (fun w h Y => PySem.W.kIn_of Y) ?F (fun K H a ns hl h => K19.lawSp K H a ns hl h)
  case F =>
    intro w mg fa h KX G hmg
    refine' K19.all_mk KX G hmg ?a0 ?l0 ?c0 ?k0 ?a1 ?l1 ?c1 ?k1 ?a2 ?l2 ?c2 ?k2 ?a3 ?l3 ?c3 ?k3 ?a4 ?l4 ?c4 ?k4 ?a5 ?l5 ?c5 ?k5 ?a6 ?l6 ?c6 ?k6 ?z0 ?z1 ?z2 ?z3 ?z4 ?z5 ?z6 ?z7 ?z8 ?z9 ?z10 ?z11 ?z12 ?z13 ?z14 ?z15 ?z16 ?z17 ?z18 ?z19 ?z20 ?e_fe ?ek_fe ?is_fe ?ex_fe ?e_nk ?ek_nk ?is_nk ?in_nk ?l_nk ?co_nk ?fi_nk ?ce_nk ?ef_nk ?e_nw ?ek_nw ?is_nw ?in_nw ?l_nw ?co_nw ?fi_nw ?ce_nw ?ef_nw ?e_nb ?ek_nb ?is_nb ?in_nb ?l_nb ?co_nb ?fi_nb ?ce_nb ?ef_nb ?e_nh ?ek_nh ?is_nh ?in_nh ?l_nh ?co_nh ?fi_nh ?ce_nh ?ef_nh ?e_nt ?ek_nt ?is_nt ?ex_nt ?e_nx ?ek_nx ?is_nx ?ex_nx ?e_nc ?ek_nc ?is_nc ?ex_nc ?e_nr ?ek_nr ?is_nr ?ex_nr ?e_no ?ek_no ?is_no ?in_no ?l_no ?co_no ?fi_no ?ce_no ?ef_no ?e_ne ?ek_ne ?is_ne ?in_ne ?l_ne ?co_ne ?fi_ne ?ce_ne ?ef_ne ?e_ki ?ek_ki ?is_ki ?in_ki ?l_ki ?co_ki ?fi_ki ?ce_ki ?ef_ki ?e_ru ?ek_ru ?is_ru ?in_ru ?l_ru ?co_ru ?fi_ru ?ce_ru ?ef_ru ?e_su ?ek_su ?is_su ?in_su ?l_su ?co_su ?fi_su ?ce_su ?ef_su ?e_me ?ek_me ?is_me ?in_me ?l_me ?co_me ?fi_me ?ce_me ?ef_me ?e_ca ?ek_ca ?is_ca ?in_ca ?l_ca ?co_ca ?fi_ca ?ce_ca ?ef_ca ?e_un ?ek_un ?is_un ?ex_un ?e_tm ?ek_tm ?is_tm ?in_tm ?l_tm ?co_tm ?fi_tm ?ce_tm ?ef_tm ?t_fe ?t_nk ?t_nw ?t_nb ?t_nh ?t_nt ?t_nx ?t_nc ?t_nr ?t_no ?t_ne ?t_ki ?t_ru ?t_su ?t_me ?t_ca ?t_un ?t_tm ?tp
    (case a0 => k_is)
    (case l0 => k_is)
    (case c0 => k_is)
    (case k0 => k_is)
    (case a1 => k_is)
    (case l1 => k_is)
    (case c1 => k_is)
    (case k1 => k_is)
    (case a2 => k_is)
    (case l2 => k_is)
    (case c2 => k_is)
    (case k2 => k_is)
    (case a3 => k_is)
    (case l3 => k_is)
    (case c3 => k_is)
    (case k3 => k_is)
    (case a4 => k_is)
    (case l4 => k_is)
    (case c4 => k_is)
    (case k4 => k_is)
    (case a5 => k_is)
    (case l5 => k_is)
    (case c5 => k_is)
    (case k5 => k_is)
    (case a6 => k_is)
    (case l6 => k_is)
    (case c6 => k_is)
    (case k6 => k_is)
    (case z0 => k_is)
    (case z1 => k_is)
    (case z2 => k_is)
    (case z3 => k_is)
    (case z4 => k_is)
    (case z5 => k_is)
    (case z6 => k_is)
    (case z7 => k_is)
    (case z8 => k_is)
    (case z9 => k_is)
    (case z10 => k_is)
    (case z11 => k_is)
    (case z12 => k_is)
    (case z13 => k_is)
    (case z14 => k_is)
    (case z15 => k_is)
    (case z16 => k_is)
    (case z17 => k_is)
    (case z18 => k_is)
    (case z19 => k_is)
    (case z20 => k_is)
    (case e_fe => k_is)
    (case ek_fe => k_is)
    (case is_fe => kernel_rfl)
    (case ex_fe => k_exc)
    (case e_nk => k_is)
    (case ek_nk => k_is)
    (case is_nk => kernel_rfl)
    (case in_nk => k_is)
    (case l_nk => k_is)
    (case co_nk => k_is)
    (case fi_nk => kernel_rfl)
    (case ce_nk => kernel_rfl)
    (case ef_nk => kernel_rfl)
    (case e_nw => k_is)
    (case ek_nw => k_is)
    (case is_nw => kernel_rfl)
    (case in_nw => k_is)
    (case l_nw => k_is)
    (case co_nw => k_is)
    (case fi_nw => kernel_rfl)
    (case ce_nw => kernel_rfl)
    (case ef_nw => kernel_rfl)
    (case e_nb => k_is)
    (case ek_nb => k_is)
    (case is_nb => kernel_rfl)
    (case in_nb => k_is)
    (case l_nb => k_is)
    (case co_nb => k_is)
    (case fi_nb => kernel_rfl)
    (case ce_nb => kernel_rfl)
    (case ef_nb => kernel_rfl)
    (case e_nh => k_is)
    (case ek_nh => k_is)
    (case is_nh => kernel_rfl)
    (case in_nh => k_is)
    (case l_nh => k_is)
    (case co_nh => k_is)
    (case fi_nh => kernel_rfl)
    (case ce_nh => kernel_rfl)
    (case ef_nh => kernel_rfl)
    (case e_nt => k_is)
    (case ek_nt => k_is)
    (case is_nt => kernel_rfl)
    (case ex_nt => k_exc)
    (case e_nx => k_is)
    (case ek_nx => k_is)
    (case is_nx => kernel_rfl)
    (case ex_nx => k_exc)
    (case e_nc => k_is)
    (case ek_nc => k_is)
    (case is_nc => kernel_rfl)
    (case ex_nc => k_exc)
    (case e_nr => k_is)
    (case ek_nr => k_is)
    (case is_nr => kernel_rfl)
    (case ex_nr => k_exc)
    (case e_no => k_is)
    (case ek_no => k_is)
    (case is_no => kernel_rfl)
    (case in_no => k_is)
    (case l_no => k_is)
    (case co_no => k_is)
    (case fi_no => kernel_rfl)
    (case ce_no => kernel_rfl)
    (case ef_no => kernel_rfl)
    (case e_ne => k_is)
    (case ek_ne => k_is)
    (case is_ne => kernel_rfl)
    (case in_ne => k_is)
    (case l_ne => k_is)
    (case co_ne => k_is)
    (case fi_ne => kernel_rfl)
    (case ce_ne => kernel_rfl)
    (case ef_ne => kernel_rfl)
    (case e_ki => k_is)
    (case ek_ki => k_is)
    (case is_ki => kernel_rfl)
    (case in_ki => k_is)
    (case l_ki => k_is)
    (case co_ki => k_is)
    (case fi_ki => kernel_rfl)
    (case ce_ki => kernel_rfl)
    (case ef_ki => kernel_rfl)
    (case e_ru => k_is)
    (case ek_ru => k_is)
    (case is_ru => kernel_rfl)
    (case in_ru => k_is)
    (case l_ru => k_is)
    (case co_ru => k_is)
    (case fi_ru => kernel_rfl)
    (case ce_ru => kernel_rfl)
    (case ef_ru => kernel_rfl)
    (case e_su => k_is)
    (case ek_su => k_is)
    (case is_su => kernel_rfl)
    (case in_su => k_is)
    (case l_su => k_is)
    (case co_su => k_is)
    (case fi_su => kernel_rfl)
    (case ce_su => kernel_rfl)
    (case ef_su => kernel_rfl)
    (case e_me => k_is)
    (case ek_me => k_is)
    (case is_me => kernel_rfl)
    (case in_me => k_is)
    (case l_me => k_is)
    (case co_me => k_is)
    (case fi_me => kernel_rfl)
    (case ce_me => kernel_rfl)
    (case ef_me => kernel_rfl)
    (case e_ca => k_is)
    (case ek_ca => k_is)
    (case is_ca => kernel_rfl)
    (case in_ca => k_is)
    (case l_ca => k_is)
    (case co_ca => k_is)
    (case fi_ca => kernel_rfl)
    (case ce_ca => kernel_rfl)
    (case ef_ca => kernel_rfl)
    (case e_un => k_is)
    (case ek_un => k_is)
    (case is_un => kernel_rfl)
    (case ex_un => k_exc)
    (case e_tm => k_is)
    (case ek_tm => k_is)
    (case is_tm => kernel_rfl)
    (case in_tm => k_is)
    (case l_tm => k_is)
    (case co_tm => k_is)
    (case fi_tm => kernel_rfl)
    (case ce_tm => kernel_rfl)
    (case ef_tm => kernel_rfl)
    (case t_fe => kernel_rfl)
    (case t_nk => kernel_rfl)
    (case t_nw => kernel_rfl)
    (case t_nb => kernel_rfl)
    (case t_nh => kernel_rfl)
    (case t_nt => kernel_rfl)
    (case t_nx => kernel_rfl)
    (case t_nc => kernel_rfl)
    (case t_nr => kernel_rfl)
    (case t_no => kernel_rfl)
    (case t_ne => kernel_rfl)
    (case t_ki => kernel_rfl)
    (case t_ru => kernel_rfl)
    (case t_su => kernel_rfl)
    (case t_me => kernel_rfl)
    (case t_ca => kernel_rfl)
    (case t_un => kernel_rfl)
    (case t_tm => kernel_rfl)
    (case tp => kernel_rfl)

