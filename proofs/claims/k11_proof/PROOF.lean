import PyProof.Rows.All
import Wide.All
import OpenK.AllK
import Wide.FinOn
import HandS.ForMost
import HandS.IsInst
import HandS.TupAny
import HandS.Deep
import HandS.Flow
import HandS.WideBits
import PyProof.ReprRoads
import HandS.Walk
import HandS.Codes
import PyProof.Rows.StrCase
import PyProof.StrBlock2
import PySem.Challenge.RW_onefacers_k11_names_lots_whos
import HandS.Style
set_option Elab.async false
set_option linter.all false
set_option maxRecDepth 100000
set_option maxHeartbeats 4000000
/-! Dat0: data in the heap, the state by data alone. -/
namespace Dat
open PySem PySem.Spec PyProof.Rows L2

def Ex (H H' : Hp) : Prop := ∀ a o, H a = some o → H' a = some o
theorem Ex.refl (H : Hp) : Ex H H := fun _ _ h => h
theorem Ex.trans {H H1 H2 : Hp} (a : Ex H H1) (b : Ex H1 H2) : Ex H H2 := fun x o h => b x o (a x o h)
theorem Ex.none {H H' : Hp} (e : Ex H H') {p : Addr} (h : H' p = Option.none) : H p = Option.none := by
  cases q : H p with
  | none => rfl
  | some o => rw [e p o q] at h; cases h
theorem Ex.new {H : Hp} {p : Addr} {o : HO} (h : H p = Option.none) : Ex H (upd H p o) := fun a u e => by
  rw [upd_ne (ne_of_none e h)]; exact e
/-- an object that H does not know may change -/
theorem Ex.mut {H H' : Hp} {p : Addr} {o : HO} (e : Ex H H') (h : H p = Option.none) : Ex H (upd H' p o) := fun a u ha => by
  rw [upd_ne (ne_of_none ha h)]; exact e a u ha
theorem Ex.both {H H' : Hp} {p : Addr} {o : HO} (e : Ex H H') : Ex (upd H p o) (upd H' p o) := fun a u ha => by
  by_cases h : a = p
  · subst h; rw [upd_same] at ha ⊢; exact ha
  · rw [upd_ne h] at ha ⊢; exact e a u ha

/-- data: what a value is, whatever address it has -/
inductive Dt where
  | non | bl (b : Bool) | int (i : Int) | str (x : Str) | lst (xs : List Dt) | tup (xs : List Dt) | dic (ks vs : List Dt) | obj (C : Addr) (ns : List Str) (vs : List Dt)

def keyD : Key → Dt
  | .inl i => .int i
  | .inr x => .str x

mutual
inductive Dq (H : Hp) : V → Dt → Prop
  | non : Dq H .non .non
  | bl (b : Bool) : Dq H (.bl b) (.bl b)
  | int (i : Int) : Dq H (.int i) (.int i)
  | str (x : Str) : Dq H (.str x) (.str x)
  | lst {a : Addr} {xs : List V} {ds : List Dt} : H a = some (.lst xs) → DqA H xs ds → Dq H (.ref a) (.lst ds)
  | tup {a : Addr} {xs : List V} {ds : List Dt} : H a = some (.tup xs) → DqA H xs ds → Dq H (.ref a) (.tup ds)
  | dic {a : Addr} {kvs : List (Key × V)} {ds : List Dt} : H a = some (.dK kvs) → DqA H (kvs.map (·.2)) ds → Dq H (.ref a) (.dic (kvs.map fun kv => keyD kv.1) ds)
  | obj {a C dx : Addr} {fs : List (Str × V)} {ds : List Dt} : H a = some (.ins C dx fs) → DqA H (fs.map (·.2)) ds → Dq H (.ref a) (.obj C (fs.map (·.1)) ds)
inductive DqA (H : Hp) : List V → List Dt → Prop
  | nil : DqA H [] []
  | cons {v : V} {vs : List V} {d : Dt} {ds : List Dt} : Dq H v d → DqA H vs ds → DqA H (v :: vs) (d :: ds)
end

mutual
theorem Dq.mono {H H' : Hp} (e : Ex H H') : ∀ {v : V} {d : Dt}, Dq H v d → Dq H' v d
  | _, _, .non => .non
  | _, _, .bl b => .bl b
  | _, _, .int i => .int i
  | _, _, .str x => .str x
  | _, _, .lst h q => .lst (e _ _ h) (DqA.mono e q)
  | _, _, .tup h q => .tup (e _ _ h) (DqA.mono e q)
  | _, _, .dic h q => .dic (e _ _ h) (DqA.mono e q)
  | _, _, .obj h q => .obj (e _ _ h) (DqA.mono e q)
theorem DqA.mono {H H' : Hp} (e : Ex H H') : ∀ {vs : List V} {ds : List Dt}, DqA H vs ds → DqA H' vs ds
  | _, _, .nil => .nil
  | _, _, .cons h q => .cons (Dq.mono e h) (DqA.mono e q)
end

section
variable {H : Hp}
theorem DqA.length : ∀ {vs : List V} {ds : List Dt}, DqA H vs ds → vs.length = ds.length
  | _, _, .nil => rfl
  | _, _, .cons _ q => by rw [List.length_cons, List.length_cons, DqA.length q]
theorem DqA.get : ∀ {vs : List V} {ds : List Dt} {i : Nat} {d : Dt}, DqA H vs ds → ds[i]? = some d → ∃ v, vs[i]? = some v ∧ Dq H v d
  | _, _, _, _, .nil, e => by simp at e
  | _, _, 0, _, .cons h _, e => by simp at e; subst e; exact ⟨_, rfl, h⟩
  | _, _, i + 1, d, .cons _ q, e => by
    obtain ⟨v, h1, h2⟩ := DqA.get (i := i) (d := d) q (by simpa using e)
    exact ⟨v, by simpa using h1, h2⟩
theorem DqA.getV : ∀ {vs : List V} {ds : List Dt} {i : Nat} {v : V}, DqA H vs ds → vs[i]? = some v → ∃ d, ds[i]? = some d ∧ Dq H v d
  | _, _, _, _, .nil, e => by simp at e
  | _, _, 0, _, .cons h _, e => by simp at e; subst e; exact ⟨_, rfl, h⟩
  | _, _, i + 1, d, .cons _ q, e => by
    obtain ⟨v, h1, h2⟩ := DqA.getV (i := i) (v := d) q (by simpa using e)
    exact ⟨v, by simpa using h1, h2⟩
theorem DqA.append : ∀ {vs ws : List V} {ds es : List Dt}, DqA H vs ds → DqA H ws es → DqA H (vs ++ ws) (ds ++ es)
  | _, _, _, _, .nil, s => s
  | _, _, _, _, .cons h q, s => .cons h (DqA.append q s)
theorem DqA.take : ∀ {vs : List V} {ds : List Dt} (n : Nat), DqA H vs ds → DqA H (vs.take n) (ds.take n)
  | _, _, 0, _ => .nil
  | _, _, _ + 1, .nil => .nil
  | _, _, n + 1, .cons h q => .cons h (DqA.take n q)
theorem DqA.drop : ∀ {vs : List V} {ds : List Dt} (n : Nat), DqA H vs ds → DqA H (vs.drop n) (ds.drop n)
  | _, _, 0, q => q
  | _, _, _ + 1, .nil => .nil
  | _, _, n + 1, .cons _ q => DqA.drop n q
theorem DqA.one {v : V} {d : Dt} (h : Dq H v d) : DqA H [v] [d] := .cons h .nil
theorem DqA.snoc {vs : List V} {ds : List Dt} {v : V} {d : Dt} (q : DqA H vs ds) (h : Dq H v d) : DqA H (vs ++ [v]) (ds ++ [d]) := q.append (.one h)
theorem DqA.ints : ∀ {vs : List V} {ns : List Int}, DqA H vs (ns.map Dt.int) → vs = ns.map V.int
  | _, [], .nil => rfl
  | _, n :: ns, .cons h q => by cases h; rw [DqA.ints q]; rfl
theorem DqA.bls : ∀ {vs : List V} {ns : List Bool}, DqA H vs (ns.map Dt.bl) → vs = ns.map V.bl
  | _, [], .nil => rfl
  | _, n :: ns, .cons h q => by cases h; rw [DqA.bls q]; rfl
theorem DqA.strs : ∀ {vs : List V} {ns : List Str}, DqA H vs (ns.map Dt.str) → vs = ns.map V.str
  | _, [], .nil => rfl
  | _, n :: ns, .cons h q => by cases h; rw [DqA.strs q]; rfl
theorem DqA.ofInts : ∀ (ns : List Int), DqA H (ns.map V.int) (ns.map Dt.int)
  | [] => .nil
  | n :: ns => .cons (.int n) (DqA.ofInts ns)
theorem DqA.ofStrs : ∀ (ns : List Str), DqA H (ns.map V.str) (ns.map Dt.str)
  | [] => .nil
  | n :: ns => .cons (.str n) (DqA.ofStrs ns)
end

/-! ### what a slot holds, what changes -/
/-- unknown; data; an object that may change, by its address -/
inductive SV where
  | no | dat (d : Dt) | at (p : Addr) | ty (n : String) | sc (K : PySem.W.Frag) (a : Addr) (ns : List Int)
/-- what is known of an object that may change: the law's pot of draws; a list of data; a dict -/
inductive MO where
  | pot | lst (ds : List Dt) | dic (ks : List Key) (vs : List Dt)
abbrev Mus := Addr → Option MO
def Mus.put (μ : Mus) (p : Addr) (o : MO) : Mus := fun q => if q = p then some o else μ q
theorem put_same {μ : Mus} {p : Addr} {o : MO} : μ.put p o p = some o := by unfold Mus.put; rw [if_pos rfl]
theorem put_ne {μ : Mus} {p q : Addr} {o : MO} (h : q ≠ p) : μ.put p o q = μ q := by unfold Mus.put; rw [if_neg h]
theorem put_put {μ : Mus} {p : Addr} {o o' : MO} : (μ.put p o).put p o' = μ.put p o' := by
  funext q; unfold Mus.put; split <;> rfl
theorem put_self {μ : Mus} {p : Addr} {o : MO} (h : μ p = some o) : μ.put p o = μ := by
  funext q; unfold Mus.put; split
  · rename_i e; rw [e, h]
  · rfl
def Mus.Sub (μ ν : Mus) : Prop := ∀ p o, μ p = some o → ν p = some o
theorem Mus.Sub.refl (μ : Mus) : μ.Sub μ := fun _ _ h => h
theorem Mus.Sub.trans {μ ν ξ : Mus} (a : μ.Sub ν) (b : ν.Sub ξ) : μ.Sub ξ := fun p o h => b p o (a p o h)
theorem Mus.Sub.put {μ ν : Mus} {p : Addr} {o : MO} (h : μ.Sub ν) (hp : μ p = none) : μ.Sub (ν.put p o) := fun q u e => by
  rw [put_ne (fun z => by rw [z, hp] at e; cases e)]; exact h q u e

def MoOk (B H : Hp) (p : Addr) : MO → Prop
  | .pot => ∃ a b : Int, 0 ≤ a ∧ 0 ≤ b ∧ b < 4294967296 ∧ H p = some (.lst [.int a, .int b])
  | .lst ds => ∃ xs, H p = some (.lst xs) ∧ DqA B xs ds
  | .dic ks vs => ∃ kvs : List (Key × V), H p = some (.dK kvs) ∧ kvs.map (·.1) = ks ∧ DqA B (kvs.map (·.2)) vs
theorem MoOk.mono {B B' H H' : Hp} {p : Addr} {o : MO} (h : MoOk B H p o) (e : Ex B B') (k : H' p = H p) : MoOk B' H' p o := by
  cases o with
  | pot => obtain ⟨a, b, h1, h2, h3, h4⟩ := h; exact ⟨a, b, h1, h2, h3, by rw [k]; exact h4⟩
  | lst ds => obtain ⟨xs, h1, h2⟩ := h; exact ⟨xs, by rw [k]; exact h1, h2.mono e⟩
  | dic ks vs => obtain ⟨kvs, h1, h2, h3⟩ := h; exact ⟨kvs, by rw [k]; exact h1, h2, h3.mono e⟩
theorem MoOk.there {B H : Hp} {p : Addr} {o : MO} (h : MoOk B H p o) : H p ≠ none := by
  cases o with
  | pot => obtain ⟨a, b, _, _, _, h4⟩ := h; rw [h4]; exact nofun
  | lst ds => obtain ⟨xs, h1, _⟩ := h; rw [h1]; exact nofun
  | dic ks vs => obtain ⟨kvs, h1, _⟩ := h; rw [h1]; exact nofun

/-- a def's entry: what of data was known, the heap, which objects it may change -/
structure Wd where
  B : Hp
  H : Hp
  M : Addr → Prop
structure SInv (w : Wd) (B H : Hp) (μ : Mus) : Prop where
  b0 : Ex w.B B
  bh : Ex B H
  keep : ∀ q o, ¬ w.M q → w.H q = some o → H q = some o
  there : ∀ q, w.H q ≠ none → H q ≠ none
  out : ∀ q, w.H q ≠ none → w.B q = none → B q = none
  mus : ∀ p o, μ p = some o → B p = none ∧ MoOk B H p o ∧ (w.M p ∨ w.H p = none)

section
variable {w : Wd} {B H : Hp} {μ : Mus} {p : Addr} {o : HO}
theorem SInv.free (I : SInv w B H μ) (hp : H p = none) : B p = none ∧ μ p = none ∧ w.H p = none := by
  refine ⟨I.bh.none hp, ?_, ?_⟩
  · cases e : μ p with
    | none => rfl
    | some o => exact absurd hp (I.mus p o e).2.1.there
  · cases e : w.H p with
    | none => rfl
    | some o => exact absurd hp (I.there p (by rw [e]; exact nofun))
/-- new data -/
theorem SInv.new (I : SInv w B H μ) (hp : H p = none) (o : HO) : SInv w (upd B p o) (upd H p o) μ := by
  obtain ⟨hb, hm, hw⟩ := I.free hp
  have ne : ∀ q, H q ≠ none → q ≠ p := fun q h e => h (e ▸ hp)
  refine ⟨I.b0.mut (I.b0.none hb), I.bh.both, fun q u hM hq => ?_, fun q hq => ?_, fun q hq hB => ?_, fun q u hq => ?_⟩
  · rw [upd_ne (ne q (I.there q (by rw [hq]; exact nofun)))]; exact I.keep q u hM hq
  · rw [upd_ne (ne q (I.there q hq))]; exact I.there q hq
  · rw [upd_ne (ne q (I.there q hq))]; exact I.out q hq hB
  · obtain ⟨h1, h2, h3⟩ := I.mus q u hq
    have hne := ne q h2.there
    exact ⟨by rw [upd_ne hne]; exact h1, h2.mono (Ex.new hb) (upd_ne hne), h3⟩
/-- a new object that may change -/
theorem SInv.newM (I : SInv w B H μ) (hp : H p = none) (m : MO) (h : MoOk B (upd H p o) p m) : SInv w B (upd H p o) (μ.put p m) := by
  obtain ⟨hb, hm, hw⟩ := I.free hp
  have ne : ∀ q, H q ≠ none → q ≠ p := fun q h e => h (e ▸ hp)
  refine ⟨I.b0, I.bh.mut hb, fun q u hM hq => ?_, fun q hq => ?_, I.out, fun q u hq => ?_⟩
  · rw [upd_ne (ne q (I.there q (by rw [hq]; exact nofun)))]; exact I.keep q u hM hq
  · rw [upd_ne (ne q (I.there q hq))]; exact I.there q hq
  · by_cases e : q = p
    · subst e
      rw [put_same] at hq
      cases hq
      exact ⟨hb, h, .inr hw⟩
    · rw [put_ne e] at hq
      obtain ⟨h1, h2, h3⟩ := I.mus q u hq
      exact ⟨h1, h2.mono (Ex.refl B) (upd_ne e), h3⟩
/-- it changes -/
theorem SInv.set (I : SInv w B H μ) {m0 : MO} (hm : μ p = some m0) (m : MO) (h : MoOk B (upd H p o) p m) : SInv w B (upd H p o) (μ.put p m) := by
  obtain ⟨hb, h0, hw⟩ := I.mus p m0 hm
  have nw : ∀ q u, ¬ w.M q → w.H q = some u → q ≠ p := fun q u hM hq e => by
    subst e
    rcases hw with k | k
    · exact hM k
    · rw [k] at hq; cases hq
  refine ⟨I.b0, I.bh.mut hb, fun q u hM hq => ?_, fun q hq => ?_, I.out, fun q u hq => ?_⟩
  · rw [upd_ne (nw q u hM hq)]; exact I.keep q u hM hq
  · by_cases e : q = p
    · subst e; rw [upd_same]; exact nofun
    · rw [upd_ne e]; exact I.there q hq
  · by_cases e : q = p
    · subst e
      rw [put_same] at hq
      cases hq
      exact ⟨hb, h, hw⟩
    · rw [put_ne e] at hq
      obtain ⟨h1, h2, h3⟩ := I.mus q u hq
      exact ⟨h1, h2.mono (Ex.refl B) (upd_ne e), h3⟩
theorem SInv.sub (I : SInv w B H μ) {ν : Mus} (s : ν.Sub μ) : SInv w B H ν := ⟨I.b0, I.bh, I.keep, I.there, I.out, fun p o h => I.mus p o (s p o h)⟩
/-- an own list becomes data -/
theorem SInv.freeze (I : SInv w B H μ) {ds : List Dt} {ν : Mus} (hm : μ p = some (.lst ds)) (hw : w.H p = none) (s : ν.Sub μ) (hn : ν p = none) :
    ∃ B', SInv w B' H ν ∧ Ex B B' ∧ Dq B' (.ref p) (.lst ds) := by
  obtain ⟨hb, ⟨xs, h1, h2⟩, _⟩ := I.mus p _ hm
  refine ⟨upd B p (.lst xs), ⟨I.b0.mut (I.b0.none hb), fun q u hq => ?_, I.keep, I.there, fun q hq hB => ?_, fun q u hq => ?_⟩, Ex.new hb, .lst upd_same (h2.mono (Ex.new hb))⟩
  · by_cases e : q = p
    · subst e; rw [upd_same] at hq; cases hq; exact h1
    · rw [upd_ne e] at hq; exact I.bh q u hq
  · rw [upd_ne (fun e => hq (by rw [e]; exact hw))]; exact I.out q hq hB
  · have e : q ≠ p := fun z => by rw [z, hn] at hq; cases hq
    obtain ⟨h1, h2, h3⟩ := I.mus q u (s q u hq)
    exact ⟨by rw [upd_ne e]; exact h1, h2.mono (Ex.new hb) rfl, h3⟩
/-- behind a call: from the callee's world to the caller's -/
theorem SInv.back (I : SInv w B H μ) {B' H' : Hp} {μ' : Mus} (J : SInv ⟨B, H, fun p => μ p ≠ none⟩ B' H' μ') : SInv w B' H' μ' := by
  refine ⟨I.b0.trans J.b0, J.bh, fun q u hM hq => ?_, fun q hq => J.there q (I.there q hq), fun q hq hB => J.out q (I.there q hq) (I.out q hq hB), fun q u hq => ?_⟩
  · refine J.keep q u (fun z => ?_) (I.keep q u hM hq)
    cases e : μ q with
    | none => exact z e
    | some m =>
      rcases (I.mus q m e).2.2 with k | k
      · exact hM k
      · rw [k] at hq; cases hq
  · obtain ⟨h1, h2, h3⟩ := J.mus q u hq
    refine ⟨h1, h2, ?_⟩
    rcases h3 with k | k
    · cases e : μ q with
      | none => exact absurd e k
      | some m => exact (I.mus q m e).2.2
    · refine .inr ?_
      cases e : w.H q with
      | none => rfl
      | some o => exact absurd k (I.there q (by rw [e]; exact nofun))
theorem SInv.start {B H : Hp} {μ : Mus} (e : Ex B H) (h : ∀ p o, μ p = some o → B p = none ∧ MoOk B H p o) : SInv ⟨B, H, fun p => μ p ≠ none⟩ B H μ :=
  ⟨Ex.refl B, e, fun _ _ _ h => h, fun _ h => h, fun _ _ h => h, fun p o q => ⟨(h p o q).1, (h p o q).2, .inl (show μ p ≠ none by rw [q]; exact nofun)⟩⟩
end

def Svq (B : Hp) (v : V) : SV → Prop
  | .no => True
  | .dat d => Dq B v d
  | .at p => v = .ref p
  | .ty n => v = .ty n
  | .sc K a ns => v = .ref a ∧ SqL K B a (ns.map V.int)
theorem Svq.mono {B B' : Hp} {v : V} {r : SV} (e : Ex B B') (h : Svq B v r) : Svq B' v r := by
  cases r with
  | no => trivial
  | dat d => exact Dq.mono e h
  | «at» p => exact h
  | ty n => exact h
  | sc K a ns => exact ⟨h.1, h.2.elim (fun z => .inl (z.elim (fun q => .inl (e _ _ q)) fun ⟨c, q⟩ => .inr ⟨c, e _ _ q⟩)) .inr⟩
inductive SvA (B : Hp) : List V → List SV → Prop
  | nil : SvA B [] []
  | cons {v : V} {vs : List V} {r : SV} {rs : List SV} : Svq B v r → SvA B vs rs → SvA B (v :: vs) (r :: rs)
theorem SvA.mono {B B' : Hp} (e : Ex B B') : ∀ {vs : List V} {rs : List SV}, SvA B vs rs → SvA B' vs rs
  | _, _, .nil => .nil
  | _, _, .cons h q => .cons (h.mono e) (SvA.mono e q)
theorem SvA.length {B : Hp} : ∀ {vs : List V} {rs : List SV}, SvA B vs rs → vs.length = rs.length
  | _, _, .nil => rfl
  | _, _, .cons _ q => by rw [List.length_cons, List.length_cons, SvA.length q]

/-- the slots, by what they hold -/
structure Sto (B : Hp) (σ : L2.St) (ρ : List SV) : Prop where
  len : σ.length = ρ.length
  get : ∀ (i : Nat) (r : SV), ρ[i]? = some r → r = .no ∨ ∃ v, σ[i]? = some (some v) ∧ Svq B v r
theorem Sto.mono {B B' : Hp} {σ : L2.St} {ρ : List SV} (e : Ex B B') (S : Sto B σ ρ) : Sto B' σ ρ := ⟨S.len, fun i r h => by
  rcases S.get i r h with q | ⟨v, h1, h2⟩
  · exact .inl q
  · exact .inr ⟨v, h1, h2.mono e⟩⟩
theorem Sto.set {B : Hp} {σ : L2.St} {ρ : List SV} (S : Sto B σ ρ) (i : Nat) {v : V} {r : SV} (h : Svq B v r) : Sto B (σ.set i (some v)) (ρ.set i r) := ⟨by rw [List.length_set, List.length_set, S.len], fun j u hj => by
  by_cases e : i = j
  · subst e
    by_cases hl : i < ρ.length
    · rw [List.getElem?_set_self hl] at hj
      cases hj
      exact .inr ⟨v, by rw [List.getElem?_set_self (by rw [S.len]; exact hl)], h⟩
    · rw [List.getElem?_eq_none (by rw [List.length_set]; omega)] at hj
      cases hj
  · rw [List.getElem?_set_ne e] at hj ⊢
    exact S.get j u hj⟩
theorem Sto.wipe {B : Hp} {σ : L2.St} {ρ : List SV} (S : Sto B σ ρ) : ∀ (vs : List Nat) (ρ' : List SV), ρ'.length = ρ.length → (∀ (i : Nat) r, ρ'[i]? = some r → r = .no ∨ (i ∉ vs ∧ ρ[i]? = some r)) → Sto B (L2.wipe σ vs) ρ' := fun vs ρ' hl h => by
  refine ⟨by rw [wipe_length, S.len, hl], fun i r hi => ?_⟩
  rcases h i r hi with e | ⟨hn, e⟩
  · exact .inl e
  · rcases S.get i r e with e | ⟨v, h1, h2⟩
    · exact .inl e
    · refine .inr ⟨v, ?_, h2⟩
      clear hi h e
      induction vs with
      | nil => exact h1
      | cons x xs ih =>
        unfold L2.wipe
        rw [List.getElem?_set_ne (fun z => hn (by rw [← z]; exact List.mem_cons_self))]
        exact ih fun z => hn (List.mem_cons_of_mem _ z)
end Dat

set_option Elab.async false
set_option linter.all false
set_option maxRecDepth 100000
set_option maxHeartbeats 4000000
/-! Dat1: the judgements over data, and the rules that follow the text. -/
namespace Dat
open PySem PySem.Spec PyProof.Rows L2

/-! ### what is meant, with no reading given -/
def tE (X : Cx) (e : Expr) : TE := fun σ H Q => ∀ pins s, Inv X pins σ H s → wpAny (model X.prog X.w) X.A (eval e X.env) (EP X pins σ Q) X.xe s
def tT (X : Cx) (e : Expr) : TT := fun σ H Q => ∀ pins s, Inv X pins σ H s → wpAny (model X.prog X.w) X.A (isTrue e X.env (eval e X.env)) (TP X pins σ Q) X.xe s
def tW (X : Cx) (e : Expr) : TT := fun σ H Q => ∀ (whole : Sem Value) pins s, Inv X pins σ H s → wpAny (model X.prog X.w) X.A (isTrue e X.env whole) (TP X pins σ Q) X.xe s
def tL (X : Cx) (es : List Expr) : TA := fun σ H Q => ∀ (pos : Pos) pins s, Inv X pins σ H s → wpAny (model X.prog X.w) X.A (spliced (backTo pos (starEach es X.env))) (AP X pins σ Q) X.xe s
def tS (X : Cx) (st : Stmt) : TS := fun D σ H => ∀ pins s, Inv X pins σ H s → wpAny (model X.prog X.w) X.A (exec st X.env) (SP X pins D) X.xe s
def tB_ (X : Cx) (sts : List Stmt) : TS := fun D σ H => ∀ pins s, Inv X pins σ H s → wpAny (model X.prog X.w) X.A (execs sts X.env) (SP X pins D) X.xe s
def tG (X : Cx) (tg : Expr) : TG := fun v σ H Q => ∀ pins s u, Inv X pins σ H s → RelV v u → wpAny (model X.prog X.w) X.A (assign tg X.env u) (fun _ s' => ∃ σ' H', Inv X pins σ' H' s' ∧ Q σ' H') X.xe s
def tI (X : Cx) (tg e : Expr) : TI := fun σ H R => ∀ pins s, Inv X pins σ H s → wpAny (model X.prog X.w) X.A (eval e X.env) (fun v s1 => wpAny (model X.prog X.w) X.A (pyIter v) (PIE X pins σ tg R) X.xe s1) X.xe s
def tP (X : Cx) (e : Option Expr) : TO := fun σ H Q => ∀ pins s, Inv X pins σ H s → wpAny (model X.prog X.w) X.A (evalPart e X.env) (fun u s' => ∃ o H', Inv X pins σ H' s' ∧ IsPart u o ∧ Q o H') X.xe s
def sO (X : Cx) (f : Value → Value → Sem Value) : R2 := fun x y H Q => ∀ pins s σ v u, Inv X pins σ H s → RelV x v → RelV y u → wpAny (model X.prog X.w) X.A (f v u) (EP X pins σ Q) X.xe s
def sU (X : Cx) (f : Value → Sem Value) : V → Hp → VK → Prop := fun x H Q => ∀ pins s σ v, Inv X pins σ H s → RelV x v → wpAny (model X.prog X.w) X.A (f v) (EP X pins σ Q) X.xe s
def sC (X : Cx) (f : Value) : List V → Hp → VK → Prop := fun xs H Q => ∀ pins s σ us, Inv X pins σ H s → Vals xs us → wpAny (model X.prog X.w) X.A (call f us) (EP X pins σ Q) X.xe s
def sM (X : Cx) (id : String) : V → List V → Hp → VK → Prop := fun x xs H Q => ∀ pins s σ v us, Inv X pins σ H s → RelV x v → Vals xs us → wpAny (model X.prog X.w) X.A (call (.builtin id) (v :: us)) (EP X pins σ Q) X.xe s
def sIx (X : Cx) : R2 := fun x y H Q => ∀ (value slice : Expr) pins s σ v u, Inv X pins σ H s → RelV x v → RelV y u → subscripted slice false v u = operate [v, u] (getItem v u) → wpAny (model X.prog X.w) X.A (subscriptTail value slice v u) (EP X pins σ Q) X.xe s
def sSl (X : Cx) : V → Option Int → Option Int → Hp → VK → Prop := fun x lo hi H Q => ∀ pins s σ v vl vu (sl : Addr), Inv X pins σ H s → RelV x v → s.heap.IsSliceOf sl vl vu .none → IsPart vl lo → IsPart vu hi →
  ∃ T id, typeLookup (.type T) "__getitem__" = pure (some (.builtin id)) ∧ s.TypeIs v T ∧ wpAny (model X.prog X.w) X.A (getItem v (.ref sl)) (EP X pins σ Q) X.xe s
section
variable {X : Cx} {e : Expr} {es : List Expr} {σ : L2.St} {H : Hp}
theorem pe_self : PE X e (tE X e) := ⟨fun pins s _ _ _ I h => h pins s I⟩
theorem pt_self : PT X e (tT X e) := ⟨fun pins s _ _ _ I h => h pins s I⟩
theorem pw_self : PW X e (tW X e) := ⟨fun whole pins s _ _ _ I h => h whole pins s I⟩
theorem pa_self : PA X es (tL X es) := ⟨fun pos pins s _ _ _ I h => h pos pins s I⟩
theorem ps_self {st : Stmt} : PS X st (tS X st) := ⟨fun pins s _ _ _ I h => h pins s I⟩
theorem pss_self {sts : List Stmt} : PSs X sts (tB_ X sts) := ⟨fun pins s _ _ _ I h => h pins s I⟩
theorem pg_self : PG X e (tG X e) := ⟨fun pins s _ _ _ u _ I r h => h pins s u I r⟩
theorem pi_self {tg : Expr} : PI X tg e (tI X tg e) := ⟨fun pins s _ _ _ I h => h pins s I⟩
theorem po_self {o : Option Expr} : PO X o (tP X o) := ⟨fun pins s _ _ _ I h => h pins s I⟩
theorem or_self {f : Value → Value → Sem Value} : OpR X f (sO X f) := fun pins s σ _ _ _ v u _ I rx ry h => h pins s σ v u I rx ry
theorem ur_self {f : Value → Sem Value} : UnR X f (sU X f) := fun pins s σ _ _ v _ I rx h => h pins s σ v I rx
theorem cr_self {f : Value} : CallR X f (sC X f) := fun pins s σ _ _ us _ I r h => h pins s σ us I r
theorem mr_self {id : String} : MtR X id (sM X id) := fun pins s σ _ _ _ v us _ I r rs h => h pins s σ v us I r rs
theorem ix_self : IxR X (sIx X) := fun value slice pins s σ _ _ _ v u _ I rx ry h hs => h value slice pins s σ v u I rx ry hs
theorem sl_self : SlR X (sSl X) := fun pins s σ _ _ v vl vu _ _ sl _ I rx hs pl pu h => h pins s σ v vl vu sl I rx hs pl pu
theorem tE_of {t : TE} {Q : VK} (h : PE X e t) (q : t σ H Q) : tE X e σ H Q := fun pins s I => h.run pins s σ H Q I q
theorem tT_of {t : TT} {Q : Bool → Hp → Prop} (h : PT X e t) (q : t σ H Q) : tT X e σ H Q := fun pins s I => h.run pins s σ H Q I q
theorem tW_of {t : TT} {Q : Bool → Hp → Prop} (h : PW X e t) (q : t σ H Q) : tW X e σ H Q := fun whole pins s I => h.run whole pins s σ H Q I q
theorem tL_of {t : TA} {Q : List V → Hp → Prop} (h : PA X es t) (q : t σ H Q) : tL X es σ H Q := fun pos pins s I => h.run pos pins s σ H Q I q
theorem tS_of {st : Stmt} {t : TS} {D : Ends} (h : PS X st t) (q : t D σ H) : tS X st D σ H := fun pins s I => h.run pins s σ H D I q
theorem tB_of {sts : List Stmt} {t : TS} {D : Ends} (h : PSs X sts t) (q : t D σ H) : tB_ X sts D σ H := fun pins s I => h.run pins s σ H D I q
theorem tG_of {t : TG} {v : V} {Q : L2.St → Hp → Prop} (h : PG X e t) (q : t v σ H Q) : tG X e v σ H Q := fun pins s u I r => h.run pins s σ H v u Q I r q
theorem tI_of {tg : Expr} {t : TI} {R : It → Hp → Prop} (h : PI X tg e t) (q : t σ H R) : tI X tg e σ H R := fun pins s I => h.run pins s σ H R I q
theorem tP_of {o : Option Expr} {t : TO} {Q : Option Int → Hp → Prop} (h : PO X o t) (q : t σ H Q) : tP X o σ H Q := fun pins s I => h.run pins s σ H Q I q
theorem sO_of {f : Value → Value → Sem Value} {r : R2} {x y : V} {Q : VK} (h : OpR X f r) (q : r x y H Q) : sO X f x y H Q := fun pins s σ v u I rx ry => h pins s σ H x y v u Q I rx ry q
theorem sU_of {f : Value → Sem Value} {r : V → Hp → VK → Prop} {x : V} {Q : VK} (h : UnR X f r) (q : r x H Q) : sU X f x H Q := fun pins s σ v I rx => h pins s σ H x v Q I rx q
theorem sC_of {f : Value} {r : List V → Hp → VK → Prop} {xs : List V} {Q : VK} (h : CallR X f r) (q : r xs H Q) : sC X f xs H Q := fun pins s σ us I rx => h pins s σ H xs us Q I rx q
theorem sM_of {id : String} {r : V → List V → Hp → VK → Prop} {x : V} {xs : List V} {Q : VK} (h : MtR X id r) (q : r x xs H Q) : sM X id x xs H Q := fun pins s σ v us I rx rs => h pins s σ H x xs v us Q I rx rs q
theorem sIx_of {r : R2} {x y : V} {Q : VK} (h : IxR X r) (q : r x y H Q) : sIx X x y H Q := fun value slice pins s σ v u I rx ry hs => h value slice pins s σ H x y v u Q I rx ry q hs
theorem sSl_of {r : V → Option Int → Option Int → Hp → VK → Prop} {x : V} {lo hi : Option Int} {Q : VK} (h : SlR X r) (q : r x lo hi H Q) : sSl X x lo hi H Q := fun pins s σ v vl vu sl I rx hs pl pu => h pins s σ H x v vl vu lo hi sl Q I rx hs pl pu q
end

/-! ### the judgements -/
/-- what is wanted of a value -/
def Kt (w : Wd) (B : Hp) (R : SV → Mus → Prop) (Q : VK) : Prop := ∀ v r B' H' μ', SInv w B' H' μ' → Ex B B' → Svq B' v r → R r μ' → Q v H'
theorem Kt.mono {w : Wd} {B B' : Hp} {R : SV → Mus → Prop} {Q : VK} (e : Ex B B') (k : Kt w B R Q) : Kt w B' R Q := fun v r B2 H2 μ2 I e2 => k v r B2 H2 μ2 I (e.trans e2)
def DE (X : Cx) (w : Wd) (e : Expr) (ρ : List SV) (μ : Mus) (R : SV → Mus → Prop) : Prop :=
  ∀ σ B H, Sto B σ ρ → SInv w B H μ → ∀ Q : VK, Kt w B R Q → tE X e σ H Q
def DT (X : Cx) (w : Wd) (e : Expr) (ρ : List SV) (μ : Mus) (R : Bool → Mus → Prop) : Prop :=
  ∀ σ B H, Sto B σ ρ → SInv w B H μ → ∀ Q : Bool → Hp → Prop, (∀ b B' H' μ', SInv w B' H' μ' → Ex B B' → R b μ' → Q b H') → tT X e σ H Q
def DW (X : Cx) (w : Wd) (e : Expr) (ρ : List SV) (μ : Mus) (R : Bool → Mus → Prop) : Prop :=
  ∀ σ B H, Sto B σ ρ → SInv w B H μ → ∀ Q : Bool → Hp → Prop, (∀ b B' H' μ', SInv w B' H' μ' → Ex B B' → R b μ' → Q b H') → tW X e σ H Q
def DA (X : Cx) (w : Wd) (es : List Expr) (ρ : List SV) (μ : Mus) (R : List SV → Mus → Prop) : Prop :=
  ∀ σ B H, Sto B σ ρ → SInv w B H μ → ∀ Q : List V → Hp → Prop, (∀ vs rs B' H' μ', SInv w B' H' μ' → Ex B B' → SvA B' vs rs → R rs μ' → Q vs H') → tL X es σ H Q
def DP (X : Cx) (w : Wd) (e : Option Expr) (ρ : List SV) (μ : Mus) (R : Option Int → Mus → Prop) : Prop :=
  ∀ σ B H, Sto B σ ρ → SInv w B H μ → ∀ Q : Option Int → Hp → Prop, (∀ o B' H' μ', SInv w B' H' μ' → Ex B B' → R o μ' → Q o H') → tP X e σ H Q
/-- a target takes a value -/
def DG (X : Cx) (w : Wd) (tg : Expr) (r : SV) (ρ : List SV) (μ : Mus) (R : List SV → Mus → Prop) : Prop :=
  ∀ σ B H v, Sto B σ ρ → SInv w B H μ → Svq B v r → ∀ Q : L2.St → Hp → Prop, (∀ σ' B' H' ρ' μ', Sto B' σ' ρ' → SInv w B' H' μ' → Ex B B' → R ρ' μ' → Q σ' H') → tG X tg v σ H Q
/-- operations on values -/
def OpD (X : Cx) (w : Wd) (f : Value → Value → Sem Value) (r r' : SV) (μ : Mus) (R : SV → Mus → Prop) : Prop :=
  ∀ B H v u, SInv w B H μ → Svq B v r → Svq B u r' → ∀ Q, Kt w B R Q → sO X f v u H Q
def UnD (X : Cx) (w : Wd) (f : Value → Sem Value) (r : SV) (μ : Mus) (R : SV → Mus → Prop) : Prop :=
  ∀ B H v, SInv w B H μ → Svq B v r → ∀ Q, Kt w B R Q → sU X f v H Q
def CaD (X : Cx) (w : Wd) (f : Value) (rs : List SV) (μ : Mus) (R : SV → Mus → Prop) : Prop :=
  ∀ B H vs, SInv w B H μ → SvA B vs rs → ∀ Q, Kt w B R Q → sC X f vs H Q
def MtD (X : Cx) (w : Wd) (id : String) (r : SV) (rs : List SV) (μ : Mus) (R : SV → Mus → Prop) : Prop :=
  ∀ B H v vs, SInv w B H μ → Svq B v r → SvA B vs rs → ∀ Q, Kt w B R Q → sM X id v vs H Q
def IxD (X : Cx) (w : Wd) (r r' : SV) (μ : Mus) (R : SV → Mus → Prop) : Prop :=
  ∀ B H v u, SInv w B H μ → Svq B v r → Svq B u r' → ∀ Q, Kt w B R Q → sIx X v u H Q
def SlD (X : Cx) (w : Wd) (r : SV) (lo hi : Option Int) (μ : Mus) (R : SV → Mus → Prop) : Prop :=
  ∀ B H v, SInv w B H μ → Svq B v r → ∀ Q, Kt w B R Q → sSl X v lo hi H Q
/-- the type of a receiver of a built-in type's method -/
def TyD (K : PySem.W.Frag) (T : String) (r : SV) (μ : Mus) : Prop := ∀ w B H v, SInv w B H μ → Svq B v r → tyV K T v H

/-! ### expressions by their text -/
section
variable {X : Cx} {w : Wd} {ρ : List SV} {μ : Mus} {R : SV → Mus → Prop} {a b c e : Expr} {es : List Expr} {pos p : Pos} {x : Str}
theorem DE.imp {R' : SV → Mus → Prop} (h : DE X w e ρ μ R') (k : ∀ r μ', R' r μ' → R r μ') : DE X w e ρ μ R := fun σ B H S I Q q => h σ B H S I Q fun v r B' H' μ' I' e' s' z => q v r B' H' μ' I' e' s' (k r μ' z)
theorem DT.imp {R R' : Bool → Mus → Prop} (h : DT X w e ρ μ R') (k : ∀ b μ', R' b μ' → R b μ') : DT X w e ρ μ R := fun σ B H S I Q q => h σ B H S I Q fun b B' H' μ' I' e' z => q b B' H' μ' I' e' (k b μ' z)
theorem de_name (i : Nat) {r : SV} (hr : ρ[i]? = some r) (h : R r μ) (hne : r ≠ .no := by exact nofun) (hN : X.N[i]? = some x := by rfl)
    (hv : Vis X.env.scope x := by first | exact Or.inl rfl | exact Or.inr (Or.inl rfl) | exact Or.inr (Or.inr rfl)) (hd : (x == ("__debug__" : Str)) = false := by decide)
    (hcd : (x == ("__classdict__" : Str)) = false := by decide) : DE X w (.Name x pos) ρ μ R := fun σ B H S I Q k => by
  rcases S.get i r hr with z | ⟨v, hs, q⟩
  · exact absurd z hne
  · exact tE_of (pe_var hN hv hd hcd) ⟨v, hs, k v r B H μ I (Ex.refl B) q h⟩
theorem de_int {i : Int} {j} (h : R (.dat (.int i)) μ) : DE X w (.Constant (.int i) j pos) ρ μ R := fun σ B H _ I Q k => tE_of pe_int (k (.int i) (.dat (.int i)) B H μ I (Ex.refl B) (Dq.int i) h)
theorem de_str {z : Str} {j} (h : R (.dat (.str z)) μ) : DE X w (.Constant (.str z) j pos) ρ μ R := fun σ B H _ I Q k => tE_of pe_str (k (.str z) (.dat (.str z)) B H μ I (Ex.refl B) (Dq.str z) h)
theorem de_bl {z : Bool} {j} (h : R (.dat (.bl z)) μ) : DE X w (.Constant (.bool z) j pos) ρ μ R := fun σ B H _ I Q k => tE_of pe_bl (k (.bl z) (.dat (.bl z)) B H μ I (Ex.refl B) (Dq.bl z) h)
theorem de_non {j} (h : R (.dat .non) μ) : DE X w (.Constant .none j pos) ρ μ R := fun σ B H _ I Q k => tE_of pe_non (k .non (.dat .non) B H μ I (Ex.refl B) Dq.non h)
/-- a module's whole number -/
theorem de_globI {i : Int} (hm : ∃ t, X.mg x = some (.int i t)) (h : R (.dat (.int i)) μ) (hg : Gl X x := by rfl) (hd : (x == ("__debug__" : Str)) = false := by decide) : DE X w (.Name x pos) ρ μ R := fun σ B H _ I Q k => by
  obtain ⟨t, hm⟩ := hm
  exact tE_of (pe_glob (v := .int i) hg hm ⟨t, rfl⟩ hd) (k (.int i) (.dat (.int i)) B H μ I (Ex.refl B) (Dq.int i) h)
theorem de_op {op : Operator} (ha : DE X w a ρ μ fun r μ1 => DE X w b ρ μ1 fun r' μ2 => OpD X w (binaryOp op) r r' μ2 R) : DE X w (.BinOp a op b pos) ρ μ R := fun σ B H S I Q k =>
  tE_of (pe_op (or_self (f := binaryOp op)) pe_self pe_self) (ha σ B H S I _ fun v r B1 H1 μ1 I1 e1 q1 h1 => h1 σ B1 H1 (S.mono e1) I1 _ fun u r' B2 H2 μ2 I2 e2 q2 h2 =>
    h2 B2 H2 v u I2 (q1.mono e2) q2 Q (k.mono (e1.trans e2)))
theorem de_un {op : UnaryOp} (ha : DE X w a ρ μ fun r μ1 => UnD X w (unaryOp op) r μ1 R) : DE X w (.UnaryOp op a pos) ρ μ R := fun σ B H S I Q k =>
  tE_of (pe_un (ur_self (f := unaryOp op)) pe_self) (ha σ B H S I _ fun v r B1 H1 μ1 I1 e1 q1 h1 => h1 B1 H1 v I1 q1 Q (k.mono e1))
theorem de_cmp {op : CmpOp} (ha : DE X w a ρ μ fun r μ1 => DE X w b ρ μ1 fun r' μ2 => OpD X w (compareOp op) r r' μ2 R) (hm : behindInMarks op b = false := by first | exact nomark _ | rfl) : DE X w (.Compare a [op] [b] pos) ρ μ R := fun σ B H S I Q k =>
  tE_of (pe_cmpR (or_self (f := compareOp op)) pe_self pe_self hm) (ha σ B H S I _ fun v r B1 H1 μ1 I1 e1 q1 h1 => h1 σ B1 H1 (S.mono e1) I1 _ fun u r' B2 H2 μ2 I2 e2 q2 h2 =>
    h2 B2 H2 v u I2 (q1.mono e2) q2 Q (k.mono (e1.trans e2)))
/-- a value that is a truth -/
def BoolR (r : SV) (k : Bool → Prop) : Prop := ∃ b, r = .dat (.bl b) ∧ k b
theorem de_chain {op op' : CmpOp} (ha : DE X w a ρ μ fun r μ1 => DE X w b ρ μ1 fun r' μ2 => OpD X w (compareOp op) r r' μ2 fun z μ3 => BoolR z fun t =>
      (t = true → DE X w c ρ μ3 fun r'' μ4 => OpD X w (compareOp op') r' r'' μ4 R) ∧ (t = false → R (.dat (.bl false)) μ3)) (hm : lastMarks [op, op'] [b, c] = false := by with_unfolding_all rfl) :
    DE X w (.Compare a [op, op'] [b, c] pos) ρ μ R := fun σ B H S I Q k => by
  refine tE_of (pe_chain (or_self (f := compareOp op)) (or_self (f := compareOp op')) pe_self pe_self pe_self hm) ?_
  refine ha σ B H S I _ fun v r B1 H1 μ1 I1 e1 q1 h1 => h1 σ B1 H1 (S.mono e1) I1 _ fun u r' B2 H2 μ2 I2 e2 q2 h2 => h2 B2 H2 v u I2 (q1.mono e2) q2 _ fun z rz B3 H3 μ3 I3 e3 q3 h3 => ?_
  obtain ⟨t, rfl, ht, hf⟩ := h3
  cases q3
  refine ⟨t, rfl, ?_⟩
  cases t with
  | true =>
    rw [if_pos rfl]
    exact ht rfl σ B3 H3 (S.mono (e1.trans (e2.trans e3))) I3 _ fun u4 r4 B4 H4 μ4 I4 e4 q4 h4 => h4 B4 H4 u u4 I4 (q2.mono (e3.trans e4)) q4 Q (k.mono (e1.trans (e2.trans (e3.trans e4))))
  | false =>
    rw [if_neg Bool.false_ne_true]
    exact k (.bl false) (.dat (.bl false)) B3 H3 μ3 I3 (e1.trans (e2.trans e3)) (Dq.bl false) (hf rfl)
theorem de_ix (ha : DE X w a ρ μ fun r μ1 => DE X w b ρ μ1 fun r' μ2 => IxD X w r r' μ2 R) (hs : PlainIx b := by exact fun _ _ => rfl) : DE X w (.Subscript a b pos) ρ μ R := fun σ B H S I Q k =>
  tE_of (pe_ix ix_self pe_self pe_self hs) (ha σ B H S I _ fun v r B1 H1 μ1 I1 e1 q1 h1 => h1 σ B1 H1 (S.mono e1) I1 _ fun u r' B2 H2 μ2 I2 e2 q2 h2 =>
    h2 B2 H2 v u I2 (q1.mono e2) q2 Q (k.mono (e1.trans e2)))
theorem dp_none {R : Option Int → Mus → Prop} (h : R none μ) : DP X w none ρ μ R := fun σ B H _ I Q k => tP_of po_none (k none B H μ I (Ex.refl B) h)
theorem dp_some {R : Option Int → Mus → Prop} (h : DE X w e ρ μ fun r μ1 => ∃ i, r = .dat (.int i) ∧ R (some i) μ1) : DP X w (some e) ρ μ R := fun σ B H S I Q k =>
  tP_of (po_some pe_self) (h σ B H S I _ fun v r B1 H1 μ1 I1 e1 q1 h1 => by
    obtain ⟨i, rfl, h1⟩ := h1
    cases q1
    exact ⟨i, rfl, k _ B1 H1 μ1 I1 e1 h1⟩)
theorem de_slice {lo hi : Option Expr} {p2 : Pos} (ha : DE X w a ρ μ fun r μ1 => DP X w lo ρ μ1 fun l μ2 => DP X w hi ρ μ2 fun u μ3 => SlD X w r l u μ3 R) : DE X w (.Subscript a (.Slice lo hi none p2) pos) ρ μ R := fun σ B H S I Q k =>
  tE_of (pe_slice sl_self pe_self po_self po_self) (ha σ B H S I _ fun v r B1 H1 μ1 I1 e1 q1 h1 => h1 σ B1 H1 (S.mono e1) I1 _ fun l B2 H2 μ2 I2 e2 h2 => h2 σ B2 H2 (S.mono (e1.trans e2)) I2 _ fun u B3 H3 μ3 I3 e3 h3 =>
    h3 B3 H3 v I3 (q1.mono (e2.trans e3)) Q (k.mono (e1.trans (e2.trans e3))))

theorem da_nil {R : List SV → Mus → Prop} (h : R [] μ) : DA X w [] ρ μ R := fun σ B H _ I Q k => tL_of pa_nil (k [] [] B H μ I (Ex.refl B) .nil h)
theorem da_cons {R : List SV → Mus → Prop} (ha : DE X w e ρ μ fun r μ1 => DA X w es ρ μ1 fun rs μ2 => R (r :: rs) μ2) (hs : starEach (e :: es) X.env = (false, eval e X.env) :: starEach es X.env := by rfl) : DA X w (e :: es) ρ μ R := fun σ B H S I Q k =>
  tL_of (pa_cons pe_self pa_self hs) (ha σ B H S I _ fun v r B1 H1 μ1 I1 e1 q1 h1 => h1 σ B1 H1 (S.mono e1) I1 _ fun vs rs B2 H2 μ2 I2 e2 q2 h2 => k _ _ B2 H2 μ2 I2 (e1.trans e2) (.cons (q1.mono e2) q2) h2)
/-- all are data -/
def undat : List SV → Option (List Dt)
  | [] => some []
  | .dat d :: rs => match undat rs with | some ds => some (d :: ds) | none => none
  | _ :: _ => none
theorem undat_q {B : Hp} : ∀ {vs : List V} {rs : List SV} {ds : List Dt}, SvA B vs rs → undat rs = some ds → DqA B vs ds
  | _, _, _, .nil, e => by cases e; exact .nil
  | _, _, _, .cons (r := r) (rs := rs) h q, e => by
    cases r with
    | no => cases e
    | «at» p => cases e
    | ty n => cases e
    | sc K a ns => cases e
    | dat d =>
      unfold undat at e
      cases e2 : undat rs with
      | none => rw [e2] at e; cases e
      | some ds => rw [e2] at e; cases e; exact .cons h (undat_q q e2)
theorem small_ok {n : Nat} (h : n ≤ 1000) : n ≤ sizeLine := Nat.le_trans h (by decide)
theorem de_tup {x1} (h : DA X w es ρ μ fun rs μ1 => ∃ ds, undat rs = some ds ∧ ds.length ≤ 1000 ∧ R (.dat (.tup ds)) μ1) : DE X w (.Tuple es x1 pos) ρ μ R := fun σ B H S I Q k =>
  tE_of (pe_tup pa_self) (h σ B H S I _ fun vs rs B1 H1 μ1 I1 e1 q1 h1 => by
    obtain ⟨ds, e, hl, h1⟩ := h1
    have q := undat_q q1 e
    exact ⟨small_ok (by rw [q.length]; exact hl), fun p hp => k (.ref p) (.dat (.tup ds)) _ _ μ1 (I1.new hp _) (e1.trans (Ex.new (I1.free hp).1)) (Dq.tup upd_same (q.mono (Ex.new (I1.free hp).1))) h1⟩)
theorem de_lst (h : DA X w es ρ μ fun rs μ1 => ∃ ds, undat rs = some ds ∧ ds.length ≤ 1000 ∧ R (.dat (.lst ds)) μ1) : DE X w (.List es pos) ρ μ R := fun σ B H S I Q k =>
  tE_of (pe_lst pa_self) (h σ B H S I _ fun vs rs B1 H1 μ1 I1 e1 q1 h1 => by
    obtain ⟨ds, e, hl, h1⟩ := h1
    have q := undat_q q1 e
    exact ⟨small_ok (by rw [q.length]; exact hl), fun p hp => k (.ref p) (.dat (.lst ds)) _ _ μ1 (I1.new hp _) (e1.trans (Ex.new (I1.free hp).1)) (Dq.lst upd_same (q.mono (Ex.new (I1.free hp).1))) h1⟩)
/-- a list that will change -/
theorem de_lstM (h : DA X w es ρ μ fun rs μ1 => ∃ ds, undat rs = some ds ∧ ds.length ≤ 1000 ∧ ∀ p, μ1 p = none → w.H p = none → R (.at p) (μ1.put p (.lst ds))) : DE X w (.List es pos) ρ μ R := fun σ B H S I Q k =>
  tE_of (pe_lst pa_self) (h σ B H S I _ fun vs rs B1 H1 μ1 I1 e1 q1 h1 => by
    obtain ⟨ds, e, hl, h1⟩ := h1
    have q := undat_q q1 e
    exact ⟨small_ok (by rw [q.length]; exact hl), fun p hp => k (.ref p) (.at p) _ _ (μ1.put p (.lst ds)) (I1.newM hp _ ⟨vs, upd_same, q⟩) e1 rfl (h1 p (I1.free hp).2.1 (I1.free hp).2.2)⟩)
/-- a pot: a list of two whole numbers -/
theorem de_lstPot (h : DA X w es ρ μ fun rs μ1 => ∃ a b, rs = [.dat (.int a), .dat (.int b)] ∧ 0 ≤ a ∧ 0 ≤ b ∧ b < 4294967296 ∧ ∀ p, μ1 p = none → w.H p = none → R (.at p) (μ1.put p .pot)) : DE X w (.List es pos) ρ μ R := fun σ B H S I Q k =>
  tE_of (pe_lst pa_self) (h σ B H S I _ fun vs rs B1 H1 μ1 I1 e1 q1 h1 => by
    obtain ⟨a, b, rfl, ha, hb, hb2, h1⟩ := h1
    have q := undat_q (ds := [.int a, .int b]) q1 rfl
    have ev : vs = [.int a, .int b] := DqA.ints (ns := [a, b]) q
    subst ev
    exact ⟨by show 2 ≤ sizeLine; decide, fun p hp => k (.ref p) (.at p) _ _ (μ1.put p .pot) (I1.newM hp _ ⟨a, b, ha, hb, hb2, upd_same⟩) e1 rfl (h1 p (I1.free hp).2.1 (I1.free hp).2.2)⟩)

/-! ### tests -/
theorem dt_val {R : Bool → Mus → Prop} (h : DE X w e ρ μ fun r μ' => BoolR r fun b => R b μ') (he : ∀ whole, isTrue e X.env whole = (do let v ← whole; standAt e.pos; holding [v] (truthy v)) := by intro _; rfl) : DT X w e ρ μ R := fun σ B H S I Q k =>
  tT_of (pt_val pe_self he) (h σ B H S I _ fun v r B1 H1 μ1 I1 e1 q1 h1 => by
    obtain ⟨b, rfl, h1⟩ := h1
    cases q1
    exact ⟨b, rfl, k b B1 H1 μ1 I1 e1 h1⟩)
theorem dt_cmp {op : CmpOp} {R : Bool → Mus → Prop} (ha : DE X w a ρ μ fun r μ1 => DE X w b ρ μ1 fun r' μ2 => OpD X w (compareOp op) r r' μ2 fun z μ3 => BoolR z fun t => R t μ3) (hm : behindInMarks op b = false := by first | exact nomark _ | rfl) : DT X w (.Compare a [op] [b] pos) ρ μ R := fun σ B H S I Q k =>
  tT_of (pt_cmpR (or_self (f := compareOp op)) pe_self pe_self hm) (ha σ B H S I _ fun v r B1 H1 μ1 I1 e1 q1 h1 => h1 σ B1 H1 (S.mono e1) I1 _ fun u r' B2 H2 μ2 I2 e2 q2 h2 =>
    h2 B2 H2 v u I2 (q1.mono e2) q2 _ fun z rz B3 H3 μ3 I3 e3 q3 ⟨t, hz, h3⟩ => by
      subst hz
      cases q3
      exact ⟨t, rfl, k t B3 H3 μ3 I3 (e1.trans (e2.trans e3)) h3⟩)
theorem dt_chain {op op' : CmpOp} {R : Bool → Mus → Prop} (ha : DE X w a ρ μ fun r μ1 => DE X w b ρ μ1 fun r' μ2 => OpD X w (compareOp op) r r' μ2 fun z μ3 => BoolR z fun t =>
      (t = true → DE X w c ρ μ3 fun r'' μ4 => OpD X w (compareOp op') r' r'' μ4 fun z2 μ5 => BoolR z2 fun t2 => R t2 μ5) ∧ (t = false → R false μ3)) (hm : lastMarks [op, op'] [b, c] = false := by with_unfolding_all rfl) : DT X w (.Compare a [op, op'] [b, c] pos) ρ μ R := fun σ B H S I Q k => by
  refine tT_of (pt_chain (or_self (f := compareOp op)) (or_self (f := compareOp op')) pe_self pe_self pe_self hm) ?_
  refine ha σ B H S I _ fun v r B1 H1 μ1 I1 e1 q1 h1 => h1 σ B1 H1 (S.mono e1) I1 _ fun u r' B2 H2 μ2 I2 e2 q2 h2 => h2 B2 H2 v u I2 (q1.mono e2) q2 _ fun z rz B3 H3 μ3 I3 e3 q3 h3 => ?_
  obtain ⟨t, rfl, ht, hf⟩ := h3
  cases q3
  refine ⟨t, rfl, ?_⟩
  cases t with
  | true =>
    rw [if_pos rfl]
    refine ht rfl σ B3 H3 (S.mono (e1.trans (e2.trans e3))) I3 _ fun u4 r4 B4 H4 μ4 I4 e4 q4 h4 => h4 B4 H4 u u4 I4 (q2.mono (e3.trans e4)) q4 _ fun z2 rz2 B5 H5 μ5 I5 e5 q5 ⟨t2, hz, h5⟩ => ?_
    subst hz
    cases q5
    exact ⟨t2, rfl, k t2 B5 H5 μ5 I5 (e1.trans (e2.trans (e3.trans (e4.trans e5)))) h5⟩
  | false =>
    rw [if_neg Bool.false_ne_true]
    exact ⟨false, rfl, k false B3 H3 μ3 I3 (e1.trans (e2.trans e3)) (hf rfl)⟩
theorem dt_not {R : Bool → Mus → Prop} (h : DT X w e ρ μ fun b μ' => R (!b) μ') : DT X w (.UnaryOp .Not e pos) ρ μ R := fun σ B H S I Q k =>
  tT_of (pt_not pt_self) (h σ B H S I _ fun b B1 H1 μ1 I1 e1 h1 => k (!b) B1 H1 μ1 I1 e1 h1)
theorem dt_w {R : Bool → Mus → Prop} (h : DW X w e ρ μ R) : DT X w e ρ μ R := fun σ B H S I Q k => tT_of pw_self.pt (h σ B H S I Q k)
theorem dw_and1 {R : Bool → Mus → Prop} (h : DT X w e ρ μ R) : DW X w (.BoolOp .And [e] pos) ρ μ R := fun σ B H S I Q k => tW_of (pw_and1 pt_self) (h σ B H S I Q k)
theorem dw_or1 {R : Bool → Mus → Prop} (h : DT X w e ρ μ R) : DW X w (.BoolOp .Or [e] pos) ρ μ R := fun σ B H S I Q k => tW_of (pw_or1 pt_self) (h σ B H S I Q k)
theorem dw_and {R : Bool → Mus → Prop} (h : DT X w a ρ μ fun t μ1 => (t = true → DW X w (.BoolOp .And (b :: es) pos) ρ μ1 R) ∧ (t = false → R false μ1)) : DW X w (.BoolOp .And (a :: b :: es) pos) ρ μ R := fun σ B H S I Q k =>
  tW_of (pw_and pt_self pw_self) (h σ B H S I _ fun t B1 H1 μ1 I1 e1 h1 => by
    cases t with
    | true => rw [if_pos rfl]; exact h1.1 rfl σ B1 H1 (S.mono e1) I1 Q fun t2 B2 H2 μ2 I2 e2 => k t2 B2 H2 μ2 I2 (e1.trans e2)
    | false => rw [if_neg Bool.false_ne_true]; exact k false B1 H1 μ1 I1 e1 (h1.2 rfl))
theorem dw_or {R : Bool → Mus → Prop} (h : DT X w a ρ μ fun t μ1 => (t = true → R true μ1) ∧ (t = false → DW X w (.BoolOp .Or (b :: es) pos) ρ μ1 R)) : DW X w (.BoolOp .Or (a :: b :: es) pos) ρ μ R := fun σ B H S I Q k =>
  tW_of (pw_or pt_self pw_self) (h σ B H S I _ fun t B1 H1 μ1 I1 e1 h1 => by
    cases t with
    | true => rw [if_pos rfl]; exact k true B1 H1 μ1 I1 e1 (h1.1 rfl)
    | false => rw [if_neg Bool.false_ne_true]; exact h1.2 rfl σ B1 H1 (S.mono e1) I1 Q fun t2 B2 H2 μ2 I2 e2 => k t2 B2 H2 μ2 I2 (e1.trans e2))
theorem de_one {op} (h : DE X w e ρ μ R) : DE X w (.BoolOp op [e] pos) ρ μ R := fun σ B H S I Q k => tE_of (pe_one pe_self) (h σ B H S I Q k)
theorem de_and (h : DE X w a ρ μ fun r μ1 => BoolR r fun t => (t = true → DE X w (.BoolOp .And (b :: es) pos) ρ μ1 R) ∧ (t = false → R (.dat (.bl false)) μ1)) : DE X w (.BoolOp .And (a :: b :: es) pos) ρ μ R := fun σ B H S I Q k =>
  tE_of (pe_and pe_self pe_self) (h σ B H S I _ fun v r B1 H1 μ1 I1 e1 q1 h1 => by
    obtain ⟨t, rfl, h1⟩ := h1
    cases q1
    refine ⟨t, rfl, ?_⟩
    cases t with
    | true => rw [if_pos rfl]; exact h1.1 rfl σ B1 H1 (S.mono e1) I1 Q (k.mono e1)
    | false => rw [if_neg Bool.false_ne_true]; exact k (.bl false) (.dat (.bl false)) B1 H1 μ1 I1 e1 (Dq.bl false) (h1.2 rfl))
theorem de_or (h : DE X w a ρ μ fun r μ1 => BoolR r fun t => (t = true → R (.dat (.bl true)) μ1) ∧ (t = false → DE X w (.BoolOp .Or (b :: es) pos) ρ μ1 R)) : DE X w (.BoolOp .Or (a :: b :: es) pos) ρ μ R := fun σ B H S I Q k =>
  tE_of (pe_or pe_self pe_self) (h σ B H S I _ fun v r B1 H1 μ1 I1 e1 q1 h1 => by
    obtain ⟨t, rfl, h1⟩ := h1
    cases q1
    refine ⟨t, rfl, ?_⟩
    cases t with
    | true => rw [if_pos rfl]; exact k (.bl true) (.dat (.bl true)) B1 H1 μ1 I1 e1 (Dq.bl true) (h1.1 rfl)
    | false => rw [if_neg Bool.false_ne_true]; exact h1.2 rfl σ B1 H1 (S.mono e1) I1 Q (k.mono e1))
theorem de_not (h : DE X w e ρ μ fun r μ1 => BoolR r fun t => R (.dat (.bl (!t))) μ1) : DE X w (.UnaryOp .Not e pos) ρ μ R := fun σ B H S I Q k =>
  tE_of (pe_not pe_self) (h σ B H S I _ fun v r B1 H1 μ1 I1 e1 q1 h1 => by
    obtain ⟨t, rfl, h1⟩ := h1
    cases q1
    exact ⟨t, rfl, k (.bl (!t)) (.dat (.bl (!t))) B1 H1 μ1 I1 e1 (Dq.bl _) h1⟩)
theorem de_ifx (h : DT X w c ρ μ fun t μ1 => (t = true → DE X w a ρ μ1 R) ∧ (t = false → DE X w b ρ μ1 R)) : DE X w (.IfExp c a b pos) ρ μ R := fun σ B H S I Q k =>
  tE_of (pe_ifExp pt_self pe_self pe_self) (h σ B H S I _ fun t B1 H1 μ1 I1 e1 h1 => by
    cases t with
    | true => rw [if_pos rfl]; exact h1.1 rfl σ B1 H1 (S.mono e1) I1 Q (k.mono e1)
    | false => rw [if_neg Bool.false_ne_true]; exact h1.2 rfl σ B1 H1 (S.mono e1) I1 Q (k.mono e1))

/-! ### calls of built-ins -/
theorem de_callB {id : String} (ha : DA X w (e :: es) ρ μ fun rs μ1 => CaD X w (.builtin id) rs μ1 R) (hm : X.mg x = none) (hv : bootBuiltins x = some (.builtin id)) (hg : Gl X x := by rfl) (hn : x ≠ "__name__" := by decide) (hdb : (x == ("__debug__" : Str)) = false := by decide)
    (he : starEach (e :: es) X.env = (false, eval e X.env) :: starEach es X.env := by rfl) (hpl : (backTo pos (starEach es X.env)).any (·.1) = false := by rfl) : DE X w (.Call (.Name x p) (e :: es) [] pos) ρ μ R := fun σ B H S I Q k =>
  tE_of (pe_callB cr_self hg hm hv pa_self hn hdb he hpl) (ha σ B H S I _ fun vs rs B1 H1 μ1 I1 e1 q1 h1 => h1 B1 H1 vs I1 q1 Q (k.mono e1))
theorem de_callT {T : String} (ha : DA X w (e :: es) ρ μ fun rs μ1 => CaD X w (.type T) rs μ1 R) (hm : X.mg x = none) (hv : bootBuiltins x = some (.type T)) (hg : Gl X x := by rfl) (hn : x ≠ "__name__" := by decide) (hdb : (x == ("__debug__" : Str)) = false := by decide)
    (he : starEach (e :: es) X.env = (false, eval e X.env) :: starEach es X.env := by rfl) (hpl : (backTo pos (starEach es X.env)).any (·.1) = false := by rfl) : DE X w (.Call (.Name x p) (e :: es) [] pos) ρ μ R := fun σ B H S I Q k =>
  tE_of (pe_callTy cr_self hg hm hv pa_self hn hdb he hpl) (ha σ B H S I _ fun vs rs B1 H1 μ1 I1 e1 q1 h1 => h1 B1 H1 vs I1 q1 Q (k.mono e1))
/-- a built-in class as a value: isinstance(x, int) -/
theorem de_bm {T id : String} {name : Str} {o : Expr} {apos cpos : Pos} (ho : DE X w o ρ μ fun r μ1 => TyD X.K T r μ1 ∧ DA X w (e :: es) ρ μ1 fun rs μ2 => MtD X w id r rs μ2 R) (pa : PlainAttrs T) (slot : Slot T name id) (hty : typeOf (.builtin id) = pure (.type "method_descriptor"))
    (hbase : attributeBase o name X.env (eval o X.env) = eval o X.env := by rfl)
    (hfew : ((backTo cpos (starEach (e :: es) X.env)).all (fun x => !x.1) && (backToKw cpos (keywordEach [] X.env)).all (fun x => x.1.isSome)
      && decide ((e :: es).length + ([] : List Keyword).length + (if ([] : List Keyword).isEmpty then 0 else 1) < 30)) = true := by rfl)
    (hline : (apos.endLine == cpos.line) = true := by rfl) (hs : starEach (e :: es) X.env = (false, eval e X.env) :: starEach es X.env := by rfl) (hplain : (backTo cpos (starEach es X.env)).any (·.1) = false := by rfl) :
    DE X w (.Call (.Attribute o name apos) (e :: es) [] cpos) ρ μ R := fun σ B H S I Q k =>
  tE_of (pe_bm pa slot hty mr_self pe_self pa_self hbase hfew hline hs hplain) (ho σ B H S I _ fun v r B1 H1 μ1 I1 e1 q1 h1 => ⟨h1.1 w B1 H1 v I1 q1, h1.2 σ B1 H1 (S.mono e1) I1 _ fun vs rs B2 H2 μ2 I2 e2 q2 h2 => h2 B2 H2 v vs I2 (q1.mono e2) q2 Q (k.mono (e1.trans e2))⟩)
end
end Dat

set_option Elab.async false
set_option linter.all false
set_option maxRecDepth 100000
set_option maxHeartbeats 4000000
/-! Dat2: statements, loops, comprehensions, the program's own defs. -/
namespace Dat
open PySem PySem.Spec PyProof.Rows L2

/-! ### statements -/
structure Po where
  nx : List SV → Mus → Prop
  rt : SV → Mus → Prop
  bk : List SV → Mus → Prop := fun _ _ => False
  ct : List SV → Mus → Prop := fun _ _ => False
structure EndsOk (w : Wd) (B0 : Hp) (P : Po) (D : Ends) : Prop where
  nx : ∀ σ B H ρ μ, Sto B σ ρ → SInv w B H μ → Ex B0 B → P.nx ρ μ → D.nx σ H
  rt : ∀ v r B H μ, SInv w B H μ → Ex B0 B → Svq B v r → P.rt r μ → D.rt v H
  bk : ∀ σ B H ρ μ, Sto B σ ρ → SInv w B H μ → Ex B0 B → P.bk ρ μ → D.bk σ H
  ct : ∀ σ B H ρ μ, Sto B σ ρ → SInv w B H μ → Ex B0 B → P.ct ρ μ → D.ct σ H
theorem EndsOk.mono {w : Wd} {B0 B1 : Hp} {P : Po} {D : Ends} (E : EndsOk w B0 P D) (e : Ex B0 B1) : EndsOk w B1 P D :=
  ⟨fun σ B H ρ μ S I x => E.nx σ B H ρ μ S I (e.trans x), fun v r B H μ I x => E.rt v r B H μ I (e.trans x), fun σ B H ρ μ S I x => E.bk σ B H ρ μ S I (e.trans x), fun σ B H ρ μ S I x => E.ct σ B H ρ μ S I (e.trans x)⟩
def DS (X : Cx) (w : Wd) (st : Stmt) (ρ : List SV) (μ : Mus) (P : Po) : Prop :=
  ∀ σ B H, Sto B σ ρ → SInv w B H μ → ∀ D, EndsOk w B P D → tS X st D σ H
def DSs (X : Cx) (w : Wd) (sts : List Stmt) (ρ : List SV) (μ : Mus) (P : Po) : Prop :=
  ∀ σ B H, Sto B σ ρ → SInv w B H μ → ∀ D, EndsOk w B P D → tB_ X sts D σ H
/-- what a loop walks -/
structure WkD (J : It) (B : Hp) (items : List Dt) : Prop where
  goes : ∀ i H, i < items.length → Ex B H → J.go i H
  stops : ∀ H, Ex B H → J.stop items.length H
  yields : ∀ i H x H', i < items.length → Ex B H → J.yld i H x H' → ∃ d, items[i]? = some d ∧ ((H' = H ∧ Dq B x d) ∨ ∃ T xs ds, x = .ref T ∧ H T = none ∧ H' = upd H T (.tup xs) ∧ DqA B xs ds ∧ d = .tup ds)
def DI (X : Cx) (w : Wd) (tg e : Expr) (ρ : List SV) (μ : Mus) (R : List Dt → Mus → Prop) : Prop :=
  ∀ σ B H, Sto B σ ρ → SInv w B H μ → ∀ RR : It → Hp → Prop, (∀ J items B' H' μ', SInv w B' H' μ' → Ex B B' → WkD J B' items → R items μ' → RR J H') → tI X tg e σ H RR

section
variable {X : Cx} {w : Wd} {ρ : List SV} {μ : Mus} {P : Po} {e c tg : Expr} {st : Stmt} {sts a b : List Stmt} {pos p pos' : Pos} {x : Str}
theorem dss_nil (h : P.nx ρ μ) : DSs X w [] ρ μ P := fun σ B H S I D E => tB_of pss_nil (E.nx σ B H ρ μ S I (Ex.refl B) h)
theorem dss_cons (h : DS X w st ρ μ { P with nx := fun ρ' μ' => DSs X w sts ρ' μ' P }) : DSs X w (st :: sts) ρ μ P := fun σ B H S I D E =>
  tB_of (pss_cons ps_self pss_self) (h σ B H S I _ ⟨fun σ1 B1 H1 ρ1 μ1 S1 I1 e1 h1 => h1 σ1 B1 H1 S1 I1 D (E.mono e1), E.rt, E.bk, E.ct⟩)
theorem dss_one (h : DS X w st ρ μ P) : DSs X w [st] ρ μ P := fun σ B H S I D E => tB_of (pss_one ps_self) (h σ B H S I D E)
theorem ds_pass (h : P.nx ρ μ) : DS X w (.Pass pos) ρ μ P := fun σ B H S I D E => tS_of ps_pass (E.nx σ B H ρ μ S I (Ex.refl B) h)
theorem ds_break (h : P.bk ρ μ) : DS X w (.Break pos) ρ μ P := fun σ B H S I D E => tS_of ps_break (E.bk σ B H ρ μ S I (Ex.refl B) h)
theorem ds_continue (h : P.ct ρ μ) : DS X w (.Continue pos) ρ μ P := fun σ B H S I D E => tS_of ps_continue (E.ct σ B H ρ μ S I (Ex.refl B) h)
theorem ds_doc {z : Str} {j} (h : P.nx ρ μ) : DS X w (.Expr (.Constant (.str z) j pos) pos') ρ μ P := fun σ B H S I D E => tS_of ps_doc (E.nx σ B H ρ μ S I (Ex.refl B) h)
theorem ds_expr (h : DE X w e ρ μ fun _ μ' => P.nx ρ μ') (hs : swapsWith e none pos.line X.env = pure false := by rfl) : DS X w (.Expr e pos) ρ μ P := fun σ B H S I D E =>
  tS_of (ps_expr pe_self hs) (h σ B H S I _ fun v r B1 H1 μ1 I1 e1 q1 h1 => E.nx σ B1 H1 ρ μ1 (S.mono e1) I1 e1 h1)
theorem ds_ret (h : DE X w e ρ μ fun r μ' => P.rt r μ') : DS X w (.Return (some e) pos) ρ μ P := fun σ B H S I D E =>
  tS_of (ps_ret pe_self) (h σ B H S I _ fun v r B1 H1 μ1 I1 e1 q1 h1 => E.rt v r B1 H1 μ1 I1 e1 q1 h1)
/-- return of an own list, that becomes data -/
theorem ds_retL (h : DE X w e ρ μ fun r μ' => ∃ q ds ν, r = .at q ∧ μ' q = some (.lst ds) ∧ w.H q = none ∧ ν.Sub μ' ∧ ν q = none ∧ P.rt (.dat (.lst ds)) ν) : DS X w (.Return (some e) pos) ρ μ P := fun σ B H S I D E =>
  tS_of (ps_ret pe_self) (h σ B H S I _ fun v r B1 H1 μ1 I1 e1 q1 h1 => by
    obtain ⟨q, ds, ν, rfl, hm, hw, hs, hn, h1⟩ := h1
    obtain ⟨B2, I2, e2, q2⟩ := I1.freeze hm hw hs hn
    cases (show v = V.ref q from q1)
    exact E.rt _ (.dat (.lst ds)) B2 H1 ν I2 (e1.trans e2) q2 h1)
theorem ds_retN (h : P.rt (.dat .non) μ) : DS X w (.Return none pos) ρ μ P := fun σ B H S I D E =>
  tS_of ps_retN (E.rt .non (.dat .non) B H μ I (Ex.refl B) Dq.non h)
theorem ds_if (h : DT X w c ρ μ fun t μ1 => (t = true → DSs X w a ρ μ1 P) ∧ (t = false → DSs X w b ρ μ1 P)) : DS X w (.If c a b pos) ρ μ P := fun σ B H S I D E =>
  tS_of (ps_if pt_self pss_self pss_self) (h σ B H S I _ fun t B1 H1 μ1 I1 e1 h1 => by
    cases t with
    | true => rw [if_pos rfl]; exact h1.1 rfl σ B1 H1 (S.mono e1) I1 D (E.mono e1)
    | false => rw [if_neg Bool.false_ne_true]; exact h1.2 rfl σ B1 H1 (S.mono e1) I1 D (E.mono e1))
theorem ds_set (i : Nat) (hN : X.N.Nodup) (h : DE X w e ρ μ fun r μ' => P.nx (ρ.set i r) μ') (hi : X.N[i]? = some x := by rfl) (hx : Loc X.env.scope x := by first | exact Or.inl rfl | exact Or.inr rfl) (hs : swapsWith e (some (.Name x pos')) pos.line X.env = pure false := by rfl)
    (hf : X.fn x = true ∨ X.env.scope.names.lookup x = some .local := by first | exact .inl rfl | exact .inr rfl) : DS X w (.Assign [.Name x pos'] e pos) ρ μ P := fun σ B H S I D E =>
  tS_of (ps_set hN hi hx pe_self hs hf) (h σ B H S I _ fun v r B1 H1 μ1 I1 e1 q1 h1 => E.nx _ B1 H1 _ μ1 ((S.mono e1).set i q1) I1 e1 h1)
theorem ds_asg (h : DE X w e ρ μ fun r μ' => DG X w tg r ρ μ' P.nx) (hs : swapsWithSole [tg] e pos.line X.env = pure false := by rfl) (hw : swappedStores [tg] e X.env = pure none := by rfl)
    (h1 : (assignEach [tg] X.env).map (·.2) = [assign tg X.env] := by rfl) : DS X w (.Assign [tg] e pos) ρ μ P := fun σ B H S I D E =>
  tS_of (ps_asg pe_self pg_self hs hw h1) (h σ B H S I _ fun v r B1 H1 μ1 I1 e1 q1 g => g σ B1 H1 v (S.mono e1) I1 q1 _ fun σ2 B2 H2 ρ2 μ2 S2 I2 e2 k2 => E.nx σ2 B2 H2 ρ2 μ2 S2 I2 (e1.trans e2) k2)
theorem ds_par (i j : Nat) {y : Str} {e1 e2 : Expr} {px py pt : Pos} {kt k2 pt2} (hc : X.calm = true) (hN : X.N.Nodup) (h : DA X w [e1, e2] ρ μ fun rs μ' => ∃ r s, rs = [r, s] ∧ P.nx ((ρ.set i r).set j s) μ') (hi : X.N[i]? = some x := by rfl) (hj : X.N[j]? = some y := by rfl) (hij : i ≠ j := by decide)
    (hx : X.env.scope.names.lookup x = some .local := by rfl) (hy : X.env.scope.names.lookup y = some .local := by rfl)
    (hw : swappedStores [.Tuple [.Name x px, .Name y py] kt pt] (.Tuple [e1, e2] k2 pt2) X.env = pure (some [x, y]) := by rfl)
    (hs : swapsWithSole [.Tuple [.Name x px, .Name y py] kt pt] (.Tuple [e1, e2] k2 pt2) pos.line X.env = pure false := by rfl) :
    DS X w (.Assign [.Tuple [.Name x px, .Name y py] kt pt] (.Tuple [e1, e2] k2 pt2) pos) ρ μ P := fun σ B H S I D E =>
  tS_of (ps_par hc hN hi hj hij hx hy pa_self hw hs) (h σ B H S I _ fun vs rs B1 H1 μ1 I1 ex q1 h1 => by
    obtain ⟨r, s, rfl, h1⟩ := h1
    cases q1 with
    | cons p q => cases q with
      | cons p' q' => cases q'; exact ⟨_, _, rfl, E.nx _ B1 H1 _ μ1 (((S.mono ex).set i p).set j p') I1 ex h1⟩)
theorem ds_while {body : List Stmt} (J : Nat → List SV → Mus → Prop) (n : Nat) (h0 : J n ρ μ) (hp : PassesOwn (model X.prog X.w) X.A X.env X.xe)
    (h : ∀ n ρ1 μ1, J n ρ1 μ1 → DT X w c ρ1 μ1 fun t μ2 => (t = true → DSs X w body ρ1 μ2 { nx := fun ρ' μ' => ∃ m, m < n ∧ J m ρ' μ', ct := fun ρ' μ' => ∃ m, m < n ∧ J m ρ' μ', bk := P.nx, rt := P.rt }) ∧ (t = false → P.nx ρ1 μ2)) :
    DS X w (.While c body [] pos) ρ μ P := fun σ B H S I D E => by
  refine tS_of (ps_while hp pt_self pss_self) ⟨fun m σ H => ∃ B1 ρ μ, Sto B1 σ ρ ∧ SInv w B1 H μ ∧ Ex B B1 ∧ J m ρ μ, ⟨n, B, ρ, μ, S, I, Ex.refl B, h0⟩, ?_⟩
  rintro m σ1 H1 ⟨B1, ρ1, μ1, S1, I1, g1, J1⟩
  refine h m ρ1 μ1 J1 σ1 B1 H1 S1 I1 _ fun t B2 H2 μ2 I2 e2 h2 => ?_
  cases t with
  | true =>
    rw [if_pos rfl]
    exact ⟨fun σ' H' => ∃ m', m' < m ∧ ∃ B1 ρ μ, Sto B1 σ' ρ ∧ SInv w B1 H' μ ∧ Ex B B1 ∧ J m' ρ μ, fun _ _ z => z, h2.1 rfl σ1 B2 H2 (S1.mono e2) I2 _
      ⟨fun σ3 B3 H3 ρ3 μ3 S3 I3 g3 ⟨m', hl, j⟩ => ⟨m', hl, B3, ρ3, μ3, S3, I3, g1.trans (e2.trans g3), j⟩, fun v r B3 H3 μ3 I3 g3 => E.rt v r B3 H3 μ3 I3 (g1.trans (e2.trans g3)), fun σ3 B3 H3 ρ3 μ3 S3 I3 g3 k => E.nx σ3 B3 H3 ρ3 μ3 S3 I3 (g1.trans (e2.trans g3)) k,
        fun σ3 B3 H3 ρ3 μ3 S3 I3 g3 ⟨m', hl, j⟩ => ⟨m', hl, B3, ρ3, μ3, S3, I3, g1.trans (e2.trans g3), j⟩⟩⟩
  | false =>
    rw [if_neg Bool.false_ne_true]
    exact E.nx σ1 B2 H2 ρ1 μ2 (S1.mono e2) I2 (g1.trans e2) (h2.2 rfl)

/-! ### what is walked -/
theorem di_lst {R : List Dt → Mus → Prop} (h : DE X w e ρ μ fun r μ' => ∃ ds, r = .dat (.lst ds) ∧ R ds μ') : DI X w tg e ρ μ R := fun σ B H S I RR k =>
  tI_of (pi_list pe_self) (h σ B H S I _ fun v r B1 H1 μ1 I1 e1 q1 h1 => by
    obtain ⟨ds, rfl, h1⟩ := h1
    cases q1 with
    | @lst a xs _ ha hx =>
      have sq : ∀ H, Ex B1 H → SqL X.K H a xs := fun H e => .inl (.inl (e _ _ ha))
      refine ⟨a, rfl, ⟨xs, sq H1 I1.bh⟩, k (Itl X.K a) ds B1 H1 μ1 I1 e1 ⟨fun i H hi e => ?_, fun H e => ?_, fun i H x H' hi e y => ?_⟩ h1⟩
      · exact walk_list.goes i H (by rw [hx.length]; exact hi) (sq H e)
      · have z := (walk_list (K := X.K) (a := a) (xs := xs)).stops H (sq H e)
        rw [hx.length] at z; exact z
      · obtain ⟨e1, e2⟩ := walk_list.yields i H x H' (by rw [hx.length]; exact hi) (sq H e) y
        obtain ⟨d, h1, h2⟩ := hx.getV e2
        exact ⟨d, h1, .inl ⟨e1, h2⟩⟩)
theorem di_tup {R : List Dt → Mus → Prop} (h : DE X w e ρ μ fun r μ' => ∃ ds, r = .dat (.tup ds) ∧ R ds μ') : DI X w tg e ρ μ R := fun σ B H S I RR k =>
  tI_of (pi_tup pe_self) (h σ B H S I _ fun v r B1 H1 μ1 I1 e1 q1 h1 => by
    obtain ⟨ds, rfl, h1⟩ := h1
    cases q1 with
    | @tup a xs _ ha hx =>
      have sq : ∀ H, Ex B1 H → SqT X.K H a xs := fun H e => .inl (.inl (e _ _ ha))
      refine ⟨a, rfl, ⟨xs, sq H1 I1.bh⟩, k (Itt X.K a) ds B1 H1 μ1 I1 e1 ⟨fun i H hi e => ?_, fun H e => ?_, fun i H x H' hi e y => ?_⟩ h1⟩
      · exact walk_tup.goes i H (by rw [hx.length]; exact hi) (sq H e)
      · have z := (walk_tup (K := X.K) (a := a) (xs := xs)).stops H (sq H e)
        rw [hx.length] at z; exact z
      · obtain ⟨e1, e2⟩ := walk_tup.yields i H x H' (by rw [hx.length]; exact hi) (sq H e) y
        obtain ⟨d, h1, h2⟩ := hx.getV e2
        exact ⟨d, h1, .inl ⟨e1, h2⟩⟩)
def signs (z : Str) : List Dt := z.cps.toList.map fun c => .str ⟨#[c]⟩
theorem di_str {R : List Dt → Mus → Prop} (h : DE X w e ρ μ fun r μ' => ∃ z, r = .dat (.str z) ∧ R (signs z) μ') : DI X w tg e ρ μ R := fun σ B H S I RR k =>
  tI_of (pi_str pe_self) (h σ B H S I _ fun v r B1 H1 μ1 I1 e1 q1 h1 => by
    obtain ⟨z, rfl, h1⟩ := h1
    cases q1
    have hz : (signs z).length = z.cps.size := by simp [signs]
    refine ⟨z, rfl, k (Its z) (signs z) B1 H1 μ1 I1 e1 ⟨fun i H hi e => ?_, fun H e => ?_, fun i H x H' hi e y => ?_⟩ h1⟩
    · show i < z.cps.size; rw [← hz]; exact hi
    · show z.cps.size ≤ (signs z).length; rw [hz]; exact Nat.le_refl _
    · obtain ⟨e1, c, e2, e3⟩ := y
      subst e3
      exact ⟨.str ⟨#[c]⟩, by unfold signs; rw [List.getElem?_map, Array.getElem?_toList, e2]; rfl, .inl ⟨e1, .str _⟩⟩)
def upto (lo : Int) (n : Nat) : List Dt := (List.range n).map fun (k : Nat) => .int (lo + k)
theorem di_range1 {R : List Dt → Mus → Prop} (h : DA X w [e] ρ μ fun rs μ' => ∃ n : Int, rs = [.dat (.int n)] ∧ -(2 ^ 62) ≤ n ∧ n < 2 ^ 62 ∧ R (upto 0 n.toNat) μ') (hm : X.mg "range" = none) (hg : Gl X "range" := by rfl) (hs : starEach [e] X.env = [(false, eval e X.env)] := by rfl) :
    DI X w tg (.Call (.Name "range" p) [e] [] pos) ρ μ R := fun σ B H S I RR k =>
  tI_of (pi_range1 hg hm pa_self hs) (h σ B H S I _ fun vs rs B1 H1 μ1 I1 e1 q1 h1 => by
    obtain ⟨n, rfl, h2, h3, h1⟩ := h1
    have ev := DqA.ints (ns := [n]) (undat_q (ds := [.int n]) q1 rfl)
    subst ev
    have hz : (upto 0 n.toNat).length = n.toNat := by simp [upto]
    refine ⟨n, rfl, h2, h3, k (Itr 0 n.toNat) (upto 0 n.toNat) B1 H1 μ1 I1 e1 ⟨fun i H hi e => ?_, fun H e => ?_, fun i H x H' hi e y => ?_⟩ h1⟩
    · show i < n.toNat; rw [← hz]; exact hi
    · show n.toNat ≤ (upto 0 n.toNat).length; rw [hz]; exact Nat.le_refl _
    · obtain ⟨e1, e2⟩ := y
      subst e2
      exact ⟨.int (0 + (i : Nat)), by unfold upto; rw [List.getElem?_map, List.getElem?_range (by rw [← hz]; exact hi)]; rfl, .inl ⟨e1, .int _⟩⟩)

theorem ds_for {body : List Stmt} (h : DI X w tg e ρ μ fun items μ1 => ∃ J : Nat → List SV → Mus → Prop, J 0 ρ μ1 ∧
      (∀ n d ρ' μ', items[n]? = some d → J n ρ' μ' → DG X w tg (.dat d) ρ' μ' fun ρ2 μ2 => DSs X w body ρ2 μ2 { nx := J (n + 1), ct := J (n + 1), bk := P.nx, rt := P.rt }) ∧ ∀ ρ' μ', J items.length ρ' μ' → P.nx ρ' μ')
    (hp : PassesOwn (model X.prog X.w) X.A X.env X.xe) (hc : X.calm = true) (hf : ∀ z, foldedSetIterable e X.env z = pure z := by intro _; rfl) : DS X w (.For tg e body [] pos) ρ μ P := fun σ B H S I D E => by
  refine tS_of (ps_for hp hc pi_self pg_self pss_self hf) (h σ B H S I _ fun J items B1 H1 μ1 I1 e1 W h1 => ?_)
  obtain ⟨V, v0, turn, fin⟩ := h1
  let Y : Nat → Hp → L2.V → Hp → Prop := fun i H x H' => ∃ d, items[i]? = some d ∧ ((H' = H ∧ Dq B1 x d) ∨ ∃ T xs ds, x = .ref T ∧ H T = none ∧ H' = upd H T (.tup xs) ∧ DqA B1 xs ds ∧ d = .tup ds)
  have wk : Walk J items.length (fun H => Ex B1 H) Y := ⟨fun i H hi g => W.goes i H hi g, W.stops, W.yields⟩
  refine for_it wk (fun i σ H => ∃ B ρ μ, Sto B σ ρ ∧ SInv w B H μ ∧ Ex B1 B ∧ V i ρ μ) ⟨B1, ρ, μ1, S.mono e1, I1, Ex.refl _, v0⟩ (fun i σ H _ ⟨B, ρ, μ, _, I, g, _⟩ => g.trans I.bh) ?_ ?_
  · rintro i x σ2 H2 H3 hi ⟨B2, ρ2, μ2, S2, I2, g2, v2⟩ ⟨d, hd, hy⟩
    have fin2 : ∀ B3, Sto B3 σ2 ρ2 → SInv w B3 H3 μ2 → Ex B1 B3 → Dq B3 x d → tG X tg x σ2 H3 fun σ4 H4 => tB_ X body { D with nx := fun σ H => ∃ B ρ μ, Sto B σ ρ ∧ SInv w B H μ ∧ Ex B1 B ∧ V (i + 1) ρ μ, ct := fun σ H => ∃ B ρ μ, Sto B σ ρ ∧ SInv w B H μ ∧ Ex B1 B ∧ V (i + 1) ρ μ, bk := D.nx } σ4 H4 := fun B3 S3 I3 g3 q3 => by
      refine turn i d ρ2 μ2 hd v2 σ2 B3 H3 x S3 I3 q3 _ fun σ4 B4 H4 ρ4 μ4 S4 I4 e4 h4 => ?_
      exact h4 σ4 B4 H4 S4 I4 _ ⟨fun σ5 B5 H5 ρ5 μ5 S5 I5 e5 v5 => ⟨B5, ρ5, μ5, S5, I5, g3.trans (e4.trans e5), v5⟩, fun v r B5 H5 μ5 I5 e5 => E.rt v r B5 H5 μ5 I5 (e1.trans (g3.trans (e4.trans e5))),
        fun σ5 B5 H5 ρ5 μ5 S5 I5 e5 v5 => E.nx σ5 B5 H5 ρ5 μ5 S5 I5 (e1.trans (g3.trans (e4.trans e5))) v5, fun σ5 B5 H5 ρ5 μ5 S5 I5 e5 v5 => ⟨B5, ρ5, μ5, S5, I5, g3.trans (e4.trans e5), v5⟩⟩
    rcases hy with ⟨rfl, q⟩ | ⟨T, xs, ds, rfl, hT, rfl, q, rfl⟩
    · exact fin2 B2 S2 I2 g2 (q.mono g2)
    · have hb := (I2.free hT).1
      exact fin2 (upd B2 T (.tup xs)) (S2.mono (Ex.new hb)) (I2.new hT _) (g2.trans (Ex.new hb)) (.tup upd_same ((q.mono g2).mono (Ex.new hb)))
  · rintro σ2 H2 ⟨B2, ρ2, μ2, S2, I2, g2, v2⟩
    exact E.nx σ2 B2 H2 ρ2 μ2 S2 I2 (e1.trans g2) (fin ρ2 μ2 v2)
end
end Dat

set_option Elab.async false
set_option linter.all false
set_option maxRecDepth 100000
set_option maxHeartbeats 4000000
/-! Dat3: comprehensions; targets; the program's own defs. -/
namespace Dat
open PySem PySem.Spec PyProof.Rows L2

/-! ### an own object that nobody tells -/
section
variable {w : Wd} {B H : Hp} {μ : Mus} {p : Addr}
theorem SInv.own (I : SInv w B H μ) (hb : B p = none) (hw : w.H p = none) (hm : μ p = none) (o : HO) : SInv w B (upd H p o) μ := by
  refine ⟨I.b0, I.bh.mut hb, fun q u hM hq => ?_, fun q hq => ?_, I.out, fun q u hq => ?_⟩
  · rw [upd_ne (fun z => by rw [z, hw] at hq; cases hq)]; exact I.keep q u hM hq
  · by_cases e : q = p
    · rw [e, upd_same]; exact nofun
    · rw [upd_ne e]; exact I.there q hq
  · have e : q ≠ p := fun z => by rw [z, hm] at hq; cases hq
    obtain ⟨h1, h2, h3⟩ := I.mus q u hq
    exact ⟨h1, h2.mono (Ex.refl B) (upd_ne e), h3⟩
theorem SInv.told (I : SInv w B H μ) (hb : B p = none) (hw : w.H p = none) (hm : μ p = none) {o : HO} (ho : H p = some o) : SInv w (upd B p o) H μ := by
  refine ⟨I.b0.mut (I.b0.none hb), fun q u hq => ?_, I.keep, I.there, fun q hq hB => ?_, fun q u hq => ?_⟩
  · by_cases e : q = p
    · rw [e, upd_same] at hq; cases hq; rw [e]; exact ho
    · rw [upd_ne e] at hq; exact I.bh q u hq
  · rw [upd_ne (fun e => hq (by rw [e]; exact hw))]; exact I.out q hq hB
  · have e : q ≠ p := fun z => by rw [z, hm] at hq; cases hq
    obtain ⟨h1, h2, h3⟩ := I.mus q u hq
    exact ⟨by rw [upd_ne e]; exact h1, h2.mono (Ex.new hb) rfl, h3⟩
end

/-! ### comprehensions -/
/-- the context of a comprehension's block -/
abbrev Bk := Shared × Hp × Addr × List (Str × Addr) × List Addr
abbrev BX (X : Cx) (scope : Scope) (k : Bk) : Cx := X.blk k.1 k.2.1 scope (compEnvC scope k.2.2.2.1 k.2.2.1 X.env) k.2.2.2.2
def tQ (X : Cx) (ifs : List Expr) : TT := fun σ H Q => ∀ pins s, Inv X pins σ H s →
  wpAny (model X.prog X.w) X.A (forIn ifs true fun c r => if r = true then do let ok ← isTrue c X.env (eval c X.env); pure (ForInStep.yield ok) else pure (ForInStep.yield r)) (TP X pins σ Q) X.xe s
theorem pts_self {X : Cx} {ifs : List Expr} : PTs X ifs (tQ X ifs) := ⟨fun pins s _ _ _ I h => h pins s I⟩
theorem tQ_of {X : Cx} {ifs : List Expr} {t : TT} {σ : L2.St} {H : Hp} {Q : Bool → Hp → Prop} (h : PTs X ifs t) (q : t σ H Q) : tQ X ifs σ H Q := fun pins s I => h.run pins s σ H Q I q
def DQ (X : Cx) (w : Wd) (ifs : List Expr) (ρ : List SV) (μ : Mus) (R : Bool → Mus → Prop) : Prop :=
  ∀ σ B H, Sto B σ ρ → SInv w B H μ → ∀ Q : Bool → Hp → Prop, (∀ b B' H' μ', SInv w B' H' μ' → Ex B B' → R b μ' → Q b H') → tQ X ifs σ H Q
theorem dq_nil {X : Cx} {w : Wd} {ρ : List SV} {μ : Mus} {R : Bool → Mus → Prop} (h : R true μ) : DQ X w [] ρ μ R := fun σ B H S I Q k => tQ_of pts_nil (k true B H μ I (Ex.refl B) h)
theorem dq_one {X : Cx} {w : Wd} {ρ : List SV} {μ : Mus} {R : Bool → Mus → Prop} {c : Expr} (h : DT X w c ρ μ R) : DQ X w [c] ρ μ R := fun σ B H S I Q k => tQ_of (pts_one pt_self) (h σ B H S I Q k)

section
variable {X : Cx} {w : Wd} {ρ : List SV} {μ : Mus} {elt tg iter : Expr} {ifs : List Expr} {scope : Scope} {pos px : Pos} {x y : Str}
/-- what an element's turn is to do -/
def LcTurn (X : Cx) (scope : Scope) (elt : Expr) (ifs : List Expr) (ρ : List SV) (j : Nat) (J : Nat → List Dt → Mus → Prop) (n : Nat) (acc : List Dt) (d : Dt) (μ : Mus) : Prop :=
  ∀ w' k, DQ (BX X scope k) w' ifs (ρ.set j (.dat d)) μ fun b μ3 => (b = true → ∀ kc, DE (BX X scope kc) w' elt (ρ.set j (.dat d)) μ3 fun r μ4 => ∃ d', r = .dat d' ∧ J (n + 1) (acc ++ [d']) μ4) ∧ (b = false → J (n + 1) acc μ3)
def LcAsk (X : Cx) (scope : Scope) (elt : Expr) (ifs : List Expr) (ρ : List SV) (j : Nat) (R : SV → Mus → Prop) (items : List Dt) (μ1 : Mus) : Prop :=
  items.length ≤ 100000 ∧ ∃ J : Nat → List Dt → Mus → Prop, J 0 [] μ1 ∧ (∀ n acc d μ2, items[n]? = some d → acc.length ≤ n → J n acc μ2 → LcTurn X scope elt ifs ρ j J n acc d μ2) ∧
    ∀ acc μ', J items.length acc μ' → acc.length ≤ items.length → R (.dat (.lst acc)) μ'
def gE (X : Cx) (scope : Scope) (elt : Expr) : TE := fun σ H Q => ∀ k : Bk, tE (BX X scope k) elt σ H Q
def gQ (X : Cx) (scope : Scope) (ifs : List Expr) : TT := fun σ H Q => ∀ k : Bk, tQ (BX X scope k) ifs σ H Q
theorem lc_data {R : SV → Mus → Prop} {j : Nat} {σ : L2.St} {B H : Hp} {Q : VK} (h : DI X w (.Name x px) iter ρ μ (LcAsk X scope elt ifs ρ j R)) (S : Sto B σ ρ) (I : SInv w B H μ) (k : Kt w B R Q) :
    tLc (tI X (.Name x px) iter) (gName j) (gQ X scope ifs) (gE X scope elt) [j] σ H Q := by
  refine h σ B H S I _ fun J items B1 H1 μ1 I1 e1 W h1 D hD => ?_
  obtain ⟨hlen, V, v0, turn, fin⟩ := h1
  obtain ⟨bD, mD, wD⟩ := I1.free hD
  let Y : Nat → Hp → L2.V → Hp → Prop := fun i H x H' => ∃ d, items[i]? = some d ∧ ((H' = H ∧ Dq B1 x d) ∨ ∃ T xs ds, x = .ref T ∧ H T = none ∧ H' = upd H T (.tup xs) ∧ DqA B1 xs ds ∧ d = .tup ds)
  have wk : Walk J items.length (fun H => Ex B1 H) Y := ⟨fun i H hi g => W.goes i H hi g, W.stops, W.yields⟩
  let Pv : Nat → Hp → Prop := fun i H' => ∃ B' μ' acc xs, SInv w B' H' μ' ∧ Ex B1 B' ∧ μ' D = none ∧ B' D = none ∧ H' D = some (.lst xs) ∧ DqA B' xs acc ∧ acc.length ≤ i ∧ V i acc μ'
  refine lc_it wk Pv ⟨B1, μ1, [], [], I1.own bD wD mD _, Ex.refl _, mD, bD, upd_same, .nil, Nat.le_refl _, v0⟩ (fun i H' _ ⟨B', _, _, _, I', g, _⟩ => g.trans I'.bh) ?_ ?_
  · rintro i v H2 H3 hi ⟨B2, μ2, acc, xs, I2, g2, m2, b2, hx, qx, hl, v2⟩ ⟨d, hd, hy⟩
    refine ⟨by simp [wipe, List.set_set], ?_⟩
    have core : ∀ B3, SInv w B3 H3 μ2 → Ex B2 B3 → B3 D = none → H3 D = some (.lst xs) → Dq B3 v d →
        gQ X scope ifs ((wipe σ [j]).set j (some v)) H3 fun b H4 => if b = true then gE X scope elt ((wipe σ [j]).set j (some v)) H4 fun y H5 => ∃ acc, H5 D = some (.lst acc) ∧ acc.length < sizeLine ∧ Pv (i + 1) (upd H5 D (.lst (acc ++ [y]))) else Pv (i + 1) H4 := by
      intro B3 I3 e3 b3 h3 q3 kb
      have J3 : SInv ⟨B3, H3, fun p => μ2 p ≠ none⟩ B3 H3 μ2 := SInv.start I3.bh fun p o z => ⟨(I3.mus p o z).1, (I3.mus p o z).2.1⟩
      have S3 : Sto B3 ((wipe σ [j]).set j (some v)) (ρ.set j (.dat d)) := by
        have s1 : Sto B3 σ ρ := S.mono (e1.trans (g2.trans e3))
        have s2 : Sto B3 (wipe σ [j]) (ρ.set j .no) := s1.wipe [j] _ (by rw [List.length_set]) fun i r hr => by
          by_cases e : j = i
          · subst e
            by_cases hl : j < ρ.length
            · rw [List.getElem?_set_self hl] at hr; cases hr; exact .inl rfl
            · rw [List.getElem?_eq_none (by rw [List.length_set]; omega)] at hr; cases hr
          · rw [List.getElem?_set_ne e] at hr
            exact .inr ⟨by simpa using fun z => e z.symm, hr⟩
        have s3 := s2.set j (r := .dat d) (v := v) q3
        rwa [List.set_set] at s3
      -- what holds of D behind a piece of the turn
      have keepD : ∀ {B4 H4 μ4}, SInv ⟨B3, H3, fun p => μ2 p ≠ none⟩ B4 H4 μ4 → μ4 D = none ∧ B4 D = none ∧ H4 D = some (.lst xs) := fun {B4 H4 μ4} J4 => by
        refine ⟨?_, J4.out D (by show H3 D ≠ none; rw [h3]; exact nofun) b3, J4.keep D _ (fun z => z m2) h3⟩
        cases z : μ4 D with
        | none => rfl
        | some o =>
          rcases (J4.mus D o z).2.2 with c | c
          · exact absurd m2 c
          · rw [show H3 D = none from c] at h3; cases h3
      have hacc : xs.length < sizeLine := by
        rw [qx.length]
        have : i < items.length := hi
        exact Nat.lt_of_le_of_lt (Nat.le_trans hl (Nat.le_of_lt this)) (Nat.lt_of_le_of_lt hlen (by decide))
      have t := turn i acc d μ2 hd hl v2
      refine (t _ kb) _ B3 H3 S3 J3 _ fun b B4 H4 μ4 J4 e4 h4 => ?_
      cases b with
      | false =>
        rw [if_neg Bool.false_ne_true]
        obtain ⟨k1, k2, k3⟩ := keepD J4
        exact ⟨B4, μ4, acc, xs, I3.back J4, g2.trans (e3.trans e4), k1, k2, k3, (qx.mono e3).mono e4, Nat.le_succ_of_le hl, h4.2 rfl⟩
      | true =>
        rw [if_pos rfl]
        intro kc
        refine h4.1 rfl kc _ B4 H4 (S3.mono e4) J4 _ fun y r B5 H5 μ5 J5 e5 q5 h5 => ?_
        · obtain ⟨d', rfl, h5⟩ := h5
          obtain ⟨k1, k2, k3⟩ := keepD J5
          refine ⟨xs, k3, hacc, B5, μ5, acc ++ [d'], xs ++ [y], (I3.back J5).own k2 wD k1 _, g2.trans (e3.trans (e4.trans e5)), k1, k2, upd_same, (((qx.mono e3).mono e4).mono e5).snoc q5, by rw [List.length_append]; exact Nat.succ_le_succ hl, h5⟩
    rcases hy with ⟨rfl, q⟩ | ⟨T, ys, ds, rfl, hT, rfl, q, rfl⟩
    · exact core B2 I2 (Ex.refl _) b2 hx (q.mono g2)
    · have hb := (I2.free hT).1
      have ne : D ≠ T := fun z => by rw [z, hT] at hx; cases hx
      exact core (upd B2 T (.tup ys)) (I2.new hT _) (Ex.new hb) (by rw [upd_ne ne]; exact b2) (by rw [upd_ne ne]; exact hx) (.tup upd_same ((q.mono g2).mono (Ex.new hb)))
  · rintro H' ⟨B', μ', acc, xs, I', g', m', b', hx, qx, hl, v'⟩
    exact k (.ref D) (.dat (.lst acc)) (upd B' D (.lst xs)) H' μ' (I'.told b' wD m' hx) (e1.trans (g'.trans (Ex.new b'))) (Dq.lst upd_same (qx.mono (Ex.new b'))) (fin acc μ' v' hl)
end
end Dat

set_option Elab.async false
set_option linter.all false
set_option maxRecDepth 100000
set_option maxHeartbeats 4000000
/-! Dat4: comprehensions as expressions; targets; the program's own defs, called where no repr is under way. -/
namespace Dat
open PySem PySem.Spec PyProof.Rows L2
section
variable {X : Cx} {w : Wd} {ρ : List SV} {μ : Mus} {R : SV → Mus → Prop} {P : Po} {elt tg iter e : Expr} {es : List Expr} {ifs : List Expr} {scope : Scope} {pos px p py spos : Pos} {x y : Str}
theorem de_lc (j : Nat) (hc : X.calm = true) (hN : X.N.Nodup) (ok : BlkOk X.N X.env.scope scope [(x, j)]) (h : DI X w (.Name x px) iter ρ μ (LcAsk X scope elt ifs ρ j R)) (hi : X.N[j]? = some x := by rfl)
    (hx : ∀ k, Loc (BX X scope k).env.scope x := by intro _; first | exact Or.inl rfl | exact Or.inr rfl) (hf : ∀ k, (BX X scope k).fn x = true ∨ (BX X scope k).env.scope.names.lookup x = some .local := by intro _; first | exact Or.inr rfl | exact Or.inl rfl)
    (hs : ∀ z, foldedSetIterable iter X.env z = pure z := by intro _; rfl) : DE X w (.ListComp elt [⟨.Name x px, iter, ifs, 0⟩] scope pos) ρ μ R := fun σ B H S I Q k =>
  tE_of (pe_lc (own := [(x, j)]) (g := gName j) (tt := gQ X scope ifs) (te := gE X scope elt) hc hN pi_self ok (fun s H C cl fp => pg_name (X := BX X scope (s, H, C, cl, fp)) hN hi (hx (s, H, C, cl, fp)) (hf (s, H, C, cl, fp)))
    (fun s H C cl fp => ⟨fun pins s1 σ1 H1 Q1 I1 q => q (s, H, C, cl, fp) pins s1 I1⟩) (fun s H C cl fp => ⟨fun pins s1 σ1 H1 Q1 I1 q => q (s, H, C, cl, fp) pins s1 I1⟩) hs) (lc_data h S I k)
/-- name = [..], the name a local -/
theorem ds_setLc (i j : Nat) (hc : X.calm = true) (hN : X.N.Nodup) (ok : BlkOk X.N X.env.scope scope [(x, j)]) (h : DI X w (.Name x px) iter ρ μ (LcAsk X scope elt ifs ρ j fun r μ' => P.nx (ρ.set i r) μ')) (hi : X.N[j]? = some x := by rfl) (hy : X.N[i]? = some y := by rfl)
    (hyl : X.env.scope.names.lookup y = some .local := by rfl) (hsw : swapsWith (.ListComp elt [⟨.Name x px, iter, ifs, 0⟩] scope pos) (some (.Name y py)) spos.line X.env = pure true := by exact sw_true rfl rfl rfl (by decide +kernel))
    (hx : ∀ k, Loc (BX X scope k).env.scope x := by intro _; first | exact Or.inl rfl | exact Or.inr rfl) (hf : ∀ k, (BX X scope k).fn x = true ∨ (BX X scope k).env.scope.names.lookup x = some .local := by intro _; first | exact Or.inr rfl | exact Or.inl rfl)
    (hs : ∀ z, foldedSetIterable iter X.env z = pure z := by intro _; rfl) : DS X w (.Assign [.Name y py] (.ListComp elt [⟨.Name x px, iter, ifs, 0⟩] scope pos) spos) ρ μ P := fun σ B H S I D E =>
  tS_of (ps_setLc (own := [(x, j)]) (g := gName j) (tt := gQ X scope ifs) (te := gE X scope elt) hc hN hy hyl hsw pi_self ok (fun s H C cl fp => pg_name (X := BX X scope (s, H, C, cl, fp)) hN hi (hx (s, H, C, cl, fp)) (hf (s, H, C, cl, fp)))
    (fun s H C cl fp => ⟨fun pins s1 σ1 H1 Q1 I1 q => q (s, H, C, cl, fp) pins s1 I1⟩) (fun s H C cl fp => ⟨fun pins s1 σ1 H1 Q1 I1 q => q (s, H, C, cl, fp) pins s1 I1⟩) hs)
    (lc_data (Q := fun v H1 => D.nx (σ.set i (some v)) H1) h S I fun v r B1 H1 μ1 I1 e1 q1 h1 => E.nx _ B1 H1 _ μ1 ((S.mono e1).set i q1) I1 e1 h1)

/-! ### targets -/
theorem dg_name (i : Nat) {r : SV} {T : List SV → Mus → Prop} (hN : X.N.Nodup) (h : T (ρ.set i r) μ) (hi : X.N[i]? = some x := by rfl) (hx : Loc X.env.scope x := by first | exact Or.inl rfl | exact Or.inr rfl)
    (hf : X.fn x = true ∨ X.env.scope.names.lookup x = some .local := by first | exact .inl rfl | exact .inr rfl) : DG X w (.Name x pos) r ρ μ T := fun σ B H v S I q Q k =>
  tG_of (pg_name hN hi hx hf) (k _ B H _ μ (S.set i q) I (Ex.refl B) h)
def tGs (X : Cx) (ts : List Expr) : TGs := fun vs σ H Q => ∀ pins s us, Inv X pins σ H s → Vals vs us → wpAny (model X.prog X.w) X.A (assignInOrder ((assignEach ts X.env).map (·.2)) us) (fun _ s' => ∃ σ' H', Inv X pins σ' H' s' ∧ Q σ' H') X.xe s
theorem pgs_self {ts : List Expr} : PGs X ts (tGs X ts) := ⟨fun pins s _ _ _ us _ I r h => h pins s us I r⟩
theorem tGs_of {ts : List Expr} {t : TGs} {vs : List V} {σ : L2.St} {H : Hp} {Q : L2.St → Hp → Prop} (h : PGs X ts t) (q : t vs σ H Q) : tGs X ts vs σ H Q := fun pins s us I r => h.run pins s σ H vs us Q I r q
def DGs (X : Cx) (w : Wd) (ts : List Expr) (ds : List Dt) (ρ : List SV) (μ : Mus) (T : List SV → Mus → Prop) : Prop :=
  ∀ σ B H vs, Sto B σ ρ → SInv w B H μ → DqA B vs ds → ∀ Q : L2.St → Hp → Prop, (∀ σ' B' H' ρ' μ', Sto B' σ' ρ' → SInv w B' H' μ' → Ex B B' → T ρ' μ' → Q σ' H') → tGs X ts vs σ H Q
theorem dgs_nil {T : List SV → Mus → Prop} (h : T ρ μ) : DGs X w [] [] ρ μ T := fun σ B H vs S I q Q k => by
  cases q
  exact tGs_of pgs_nil ⟨rfl, k σ B H ρ μ S I (Ex.refl B) h⟩
theorem dgs_cons {d : Dt} {ds : List Dt} {T : List SV → Mus → Prop} (h : DG X w e (.dat d) ρ μ fun ρ1 μ1 => DGs X w es ds ρ1 μ1 T) (hs : (assignEach (e :: es) X.env).map (·.2) = assign e X.env :: (assignEach es X.env).map (·.2) := by rfl) :
    DGs X w (e :: es) (d :: ds) ρ μ T := fun σ B H vs S I q Q k => by
  cases q with
  | cons q1 q2 =>
    exact tGs_of (pgs_cons pg_self pgs_self hs) ⟨_, _, rfl, h σ B H _ S I q1 _ fun σ1 B1 H1 ρ1 μ1 S1 I1 e1 h1 => h1 σ1 B1 H1 _ S1 I1 (q2.mono e1) Q fun σ2 B2 H2 ρ2 μ2 S2 I2 e2 => k σ2 B2 H2 ρ2 μ2 S2 I2 (e1.trans e2)⟩
theorem dg_tup {ds : List Dt} {k : Nat} {T : List SV → Mus → Prop} (hc : X.calm = true) (h : DGs X w es ds ρ μ T) (hl : ds.length = es.length) (hn : (assignEach es X.env).length = es.length := by rfl) (hst : (assignEach es X.env).findIdx? (·.1) = none := by rfl) :
    DG X w (.Tuple es k pos) (.dat (.tup ds)) ρ μ T := fun σ B H v S I q Q kk => by
  cases q with
  | @tup a xs _ ha hx => exact tG_of (pg_tup hc pgs_self hn hst) ⟨a, xs, rfl, .inl (.inl (I.bh _ _ ha)), by rw [hx.length, hl], h σ B H xs S I hx Q kk⟩
/-- pot[0] = n, pot[1] = n -/
theorem dg_pot {o i : Expr} {n : Int} {T : List SV → Mus → Prop} (h : DE X w o ρ μ fun r μ1 => ∃ q, r = .at q ∧ DE X w i ρ μ1 fun r2 μ2 => μ2 q = some .pot ∧ ((r2 = .dat (.int 0) ∧ 0 ≤ n) ∨ (r2 = .dat (.int 1) ∧ 0 ≤ n ∧ n < 4294967296)) ∧ T ρ μ2)
    (ha : ∀ v, assign (.Subscript o i pos) X.env v = (do
      let ov ← holding [v] (eval o X.env)
      let iv ← holding [v, ov] (eval i X.env)
      standAt pos
      holding [v, ov, iv] (setItem ov iv v)
      release [v, ov, iv] []) := by intro _; rfl) : DG X w (.Subscript o i pos) (.dat (.int n)) ρ μ T := fun σ B H v S I q Q k => by
  cases q
  refine tG_of (pg_sub pe_self pe_self set_list ha) (h σ B H S I _ fun v1 r1 B1 H1 μ1 I1 e1 q1 h1 => ?_)
  obtain ⟨p, rfl, h1⟩ := h1
  cases (show v1 = V.ref p from q1)
  refine h1 σ B1 H1 (S.mono e1) I1 _ fun v2 r2 B2 H2 μ2 I2 e2 q2 h2 => ?_
  obtain ⟨hm, hr, hT⟩ := h2
  obtain ⟨_, ⟨a, b, ha, hb, hb2, hH⟩, _⟩ := I2.mus p _ hm
  rcases hr with ⟨rfl, hn⟩ | ⟨rfl, hn, hn2⟩
  · cases q2
    refine ⟨p, _, 0, 0, rfl, rfl, hH, rfl, k σ B2 _ ρ (μ2.put p .pot) (S.mono (e1.trans e2)) (I2.set hm .pot ⟨n, b, hn, hb, hb2, upd_same⟩) (e1.trans e2) ?_⟩
    rw [put_self hm]; exact hT
  · cases q2
    refine ⟨p, _, 1, 1, rfl, rfl, hH, rfl, k σ B2 _ ρ (μ2.put p .pot) (S.mono (e1.trans e2)) (I2.set hm .pot ⟨a, n, ha, hn, hn2, upd_same⟩) (e1.trans e2) ?_⟩
    rw [put_self hm]; exact hT
end

/-! ### the program's own defs -/
/-- a def's promise, of calls where no repr is under way -/
structure FnG (P : Program) (w : World) (K : PySem.W.Frag) (mg : Str → Option Value) (base : Heap) (k : Nat) (f : Addr) (fd : FuncData) (ps : List Str) (sp : Sp) : Prop where
  len : ∀ vs H Q E, sp vs H Q E → vs.length = ps.length
  run : ∀ (A : Around) (outer : List Env) (s : Shared) (H : Hp) (args : Args) (us : List Value) (vs : List V) (Q : VK) (E : XK), Room k A → A.guards = some [] → Env0 P w K mg base A outer s H → BindsTo s fd args (ps.zip us) → Vals vs us → sp vs H Q E →
    codeAny (model P w) A (.call (.ref f) args) (CR CX0 outer P w H s Q E) s
/-- over data: pre of the arguments, post of the answer -/
def GSp (pre : List SV → Mus → Prop) (post : List SV → Mus → SV → Mus → Prop) : Sp := fun vs H Q _ => ∃ B rs μ, SvA B vs rs ∧ Ex B H ∧ (∀ p o, μ p = some o → B p = none ∧ MoOk B H p o) ∧ pre rs μ ∧
  ∀ v r B' H' μ', SInv ⟨B, H, fun p => μ p ≠ none⟩ B' H' μ' → Svq B' v r → post rs μ r μ' → Q v H'
section
variable {P : Program} {wd : World} {K : PySem.W.Frag} {mg : Str → Option Value} {base : Heap}
/-- the context of a def's body -/
abbrev bx (P : Program) (wd : World) (K : PySem.W.Frag) (mg : Str → Option Value) (base : Heap) (N : List Str) (qual : Str) (st : Stmt) (f : Addr) (cdv : Value) (A : Around) (outer : List Env) (s : Shared) (H : Hp) : Cx :=
  (cxOf CX0 P wd K mg base N qual (defScope st) f cdv A outer s H E0).nox
theorem start_sto {N : List Str} {B : Hp} {vs : List V} {rs : List SV} (h : SvA B vs rs) : Sto B (L2.start N vs) (rs ++ List.replicate (N.length - rs.length) .no) := by
  have hl := h.length
  refine ⟨by unfold L2.start; simp [hl], fun i r hr => ?_⟩
  by_cases hi : i < rs.length
  · refine .inr ?_
    rw [List.getElem?_append_left hi] at hr
    have : ∀ {vs : List V} {rs : List SV} {i : Nat} {r : SV}, SvA B vs rs → rs[i]? = some r → ∃ v, vs[i]? = some v ∧ Svq B v r := by
      intro vs rs i r h
      induction h generalizing i with
      | nil => intro e; simp at e
      | cons h1 h2 ih =>
        intro e
        cases i with
        | zero => simp at e; subst e; exact ⟨_, rfl, h1⟩
        | succ i => exact ih (by simpa using e)
    obtain ⟨v, h1, h2⟩ := this h hr
    refine ⟨v, ?_, h2⟩
    unfold L2.start
    rw [List.getElem?_append_left (by rw [List.length_map, hl]; exact hi), List.getElem?_map, h1]
    rfl
  · rw [List.getElem?_append_right (by omega), List.getElem?_replicate] at hr
    split at hr
    · cases hr; exact .inl rfl
    · cases hr
theorem fn_ok {x qual : Str} {st : Stmt} {f : Addr} {fd : FuncData} {N ps : List Str} {k : Nat} {pre : List SV → Mus → Prop} {post : List SV → Mus → SV → Mus → Prop} (F : Fun K x qual st f fd) (S : FnScope N ps (defScope st))
    (len : ∀ rs μ, pre rs μ → rs.length = ps.length)
    (body : ∀ (cdv : Value) (A : Around) (outer : List Env) (s : Shared) (H : Hp), Room k (bx P wd K mg base N qual st f cdv A outer s H).A → (bx P wd K mg base N qual st f cdv A outer s H).A.guards = some [] → ∀ w rs μ, pre rs μ →
      DSs (bx P wd K mg base N qual st f cdv A outer s H) w (defBody st) (rs ++ List.replicate (N.length - rs.length) .no) μ { nx := fun _ μ' => ∃ ν, ν.Sub μ' ∧ post rs μ (.dat .non) ν, rt := fun r μ' => ∃ ν, ν.Sub μ' ∧ post rs μ r ν }) :
    FnG P wd K mg base (k + 1) f fd ps (GSp pre post) := by
  have len' : ∀ vs H Q E, GSp pre post vs H Q E → vs.length = ps.length := fun vs H Q E h => by
    obtain ⟨B, rs, μ, h1, _, _, h2, _⟩ := h
    rw [h1.length]; exact len rs μ h2
  obtain ⟨oc, od, kV, doc, pm, an, cdv, ct, osl, rfl, lk, hcd⟩ := F.ex
  refine ⟨len', fun A outer s H args us vs Q E hr hg en hb rv hsp => ?_⟩
  have inK : K.In s.heap := en.mod.kin.keeps fun b o z => (en.bs b o z).1
  refine codeAny_call_function hr.depth (inK _ _ lk) rfl S.co S.gen rfl (PySem.W.codeRec_of inK hcd) (hb _ _ _ _ (wpAny_newFunctionEnv_cells S.kind ?_ fun env he s1 hx => ?_))
  · rintro ⟨n, v⟩ hy
    have q := S.par n (List.of_mem_zip hy).1
    exact q.imp id fun z => ⟨z, PySem.W.cellsFrom_some _ _ _ (.inl z)⟩
  · subst he
    refine ⟨(en.mod.nolimit.keeps fun b o z => (en.bs b o z).1).keeps hx.toInCall.keep, codeAny_func ?_⟩
    have I0 := inv_start (CX := CX0) (qual := qual) (f := f) (cd := cdv) (E := E) S hr.hd en (len' _ _ _ _ hsp) rv hx
    obtain ⟨B, rs, μ, q1, q2, q3, q4, q5⟩ := id hsp
    have b0 := body cdv A outer s H (hr.deeper _) hg ⟨B, H, fun p => μ p ≠ none⟩ rs μ q4 (L2.start N vs) B H (start_sto q1) (SInv.start q2 q3) { nx := fun _ H' => Q .non H', rt := Q }
      ⟨fun _ B' H' _ μ' _ J _ ⟨ν, hν, h⟩ => q5 .non (.dat .non) B' H' ν (J.sub hν) Dq.non h, fun v r B' H' μ' J _ q ⟨ν, hν, h⟩ => q5 v r B' H' ν (J.sub hν) q h, fun _ _ _ _ _ _ _ _ h => h.elim, fun _ _ _ _ _ _ _ _ h => h.elim⟩
    refine wpAny_mono (b0 [] s1 (I0.wish _)) (fun fl s' hs => ?_) fun _ _ hs => hs.elim
    have done : ∀ {σ' : L2.St} {H' : Hp} {v : V} {u : Value}, Inv (bx P wd K mg base N qual st f cdv A outer s H) [] σ' H' s' → RelV v u → Q v H' → CE outer P wd H s Q u s' := fun {σ' H' v u} J rv q => ⟨v, H', J.os, J.bare, J.base, J.hok, rv, q⟩
    cases fl with
    | ret u => obtain ⟨v, σ', H', J, rv, q⟩ := hs; exact done J rv q
    | next => obtain ⟨σ', H', J, q⟩ := hs; exact done (v := V.non) (u := Value.none) J rfl q
    | brk => obtain ⟨_, _, _, q⟩ := hs; exact q.elim
    | cont => obtain ⟨_, _, _, q⟩ := hs; exact q.elim
end
section
variable {X : Cx} {w : Wd} {ρ : List SV} {μ : Mus} {R : SV → Mus → Prop} {e : Expr} {es : List Expr} {x : Str} {p pos : Pos} {k : Nat} {f : Addr} {fd : FuncData} {ps : List Str}
theorem de_call {pre : List SV → Mus → Prop} {post : List SV → Mus → SV → Mus → Prop} (F : FnG X.prog X.w X.K X.mg X.base k f fd ps (GSp pre post)) (hr : Room k X.A) (hgd : X.A.guards = some []) (hm : X.mg x = some (.ref f)) (hk : PySem.W.keepIn X.K (.ref f) = true) (hb : Binds X.K fd ps [])
    (ha : DA X w (e :: es) ρ μ fun rs μ1 => pre rs μ1 ∧ ∀ r μ2, post rs μ1 r μ2 → R r μ2) (hg : Gl X x := by rfl) (hdb : (x == ("__debug__" : Str)) = false := by decide)
    (he : starEach (e :: es) X.env = (false, eval e X.env) :: starEach es X.env := by rfl) (hpl : (backTo pos (starEach es X.env)).any (·.1) = false := by rfl) : DE X w (.Call (.Name x p) (e :: es) [] pos) ρ μ R := fun σ B H S I Q kk pins s J => by
  refine wpAny_Call_Name_kw (ld_glob J hg hm ?_ hdb)
  refine PySem.W.callWith_K (h₀ := X.base) J.ok.mod.kin hk (thn ((pa_self (X := X) (es := e :: es)).run pos pins s σ H _ J (ha σ B H S I
    (fun vs H1 => ∀ us s1, Inv X pins σ H1 s1 → Vals vs us → wpAny (model X.prog X.w) X.A (call (.ref f) us) (EP X pins σ Q) X.xe s1) ?_)) fun us s1 ⟨vs, H1, J1, rv, q⟩ => ⟨J1.kIn, q us s1 J1 rv⟩) he hpl
  intro vs rs B1 H1 μ1 I1 e1 q1 h1 us s1 J1 rv
  have hsp : GSp pre post vs H1 Q E0 := ⟨B1, rs, μ1, q1, I1.bh, fun p o z => ⟨(I1.mus p o z).1, (I1.mus p o z).2.1⟩, h1.1, fun v r B' H' μ' L qv hp => kk v r B' H' μ' (I1.back L) (e1.trans L.b0) qv (h1.2 r μ' hp)⟩
  have hl : (us ++ []).length = ps.length := by rw [List.append_nil, ← rv.length]; exact F.len _ _ _ _ hsp
  have bd := hb s1 us J1.kIn hl
  rw [List.append_nil] at bd
  refine wpAny_call (codeAny_mono (F.run X.A X.stack s1 H1 ⟨us, []⟩ us vs Q E0 hr hgd J1.env0 bd rv hsp) fun r s' hq => ?_)
  match r, hq with
  | .ok (.ret u), hq => exact J1.after hq
  | .ok .next, hq => exact hq.elim
  | .ok .brk, hq => exact hq.elim
  | .ok .cont, hq => exact hq.elim
  | .error _, hq => exact hq.elim
end
end Dat

set_option Elab.async false
set_option linter.all false
set_option maxRecDepth 100000
set_option maxHeartbeats 4000000
/-! Dat5: repr of data. -/
namespace Dat
open PySem PySem.Spec PyProof.Rows L2
mutual
def toPy : Dt → PyData
  | .non => .none | .bl b => .bool b | .int i => .int i | .str x => .str x | .lst xs => .list (toPyA xs) | .tup xs => .tuple (toPyA xs) | .dic ks vs => .dict ((toPyA ks).zip (toPyA vs)) | .obj _ _ _ => .none
def toPyA : List Dt → List PyData
  | [] => []
  | d :: ds => toPy d :: toPyA ds
end
mutual
/-- what repr is told of: no own objects -/
def plain : Dt → Bool
  | .lst xs => plainA xs | .tup xs => plainA xs | .dic ks vs => plainA vs | .obj _ _ _ => false | _ => true
def plainA : List Dt → Bool
  | [] => true
  | d :: ds => plain d && plainA ds
end
mutual
def hasLst : Dt → Bool
  | .lst _ => true | .tup xs => hasLstA xs | .dic ks vs => hasLstA vs | _ => false
def hasLstA : List Dt → Bool
  | [] => false
  | d :: ds => hasLst d || hasLstA ds
end
theorem toPyA_map : ∀ ds : List Dt, toPyA ds = ds.map toPy
  | [] => by simp [toPyA]
  | d :: ds => by simp [toPyA, toPyA_map ds]
theorem toPyA_len (ds : List Dt) : (toPyA ds).length = ds.length := by rw [toPyA_map, List.length_map]
theorem keyVals {κ : Type} : ∀ {kvs : List (κ × V)} {vs : List (κ × Value)}, KV kvs vs → Vals (kvs.map (·.2)) (vs.map (·.2))
  | _, _, .nil => .nil
  | _, _, .cons h t => .cons h.2 (keyVals t)
section
variable {X : Cx} {pins : List (Addr × Obj)} {σ : L2.St} {H : Hp} {s : Shared} {h : Heap}
theorem dictParts {P : Program} {w : World} : ∀ {es : List DictEntry} {vs : List (Key × Value)} {kvs : List (Key × V)}, Pairs (mixKind P w) es vs → KV kvs vs →
    ReadsAll h (es.map (·.key)) (toPyA (kvs.map fun kv => keyD kv.1)) [] ∧ Vals (kvs.map (·.2)) (es.map (·.val)) := by
  intro es vs kvs p r
  induction p generalizing kvs with
  | nil => cases r; exact ⟨.nil, .nil⟩
  | @cons e kv es' vs' hk hv t ih =>
    cases r with
    | @cons a _ l1 _ r1 r2 =>
      obtain ⟨h1, h2⟩ := ih r2
      have q : Reads h e.key (toPy (keyD a.1)) [] := by
        rcases keyIs_shape (show keyIs kv.1 e.key = true from hk) with ⟨i, t, e1, e2⟩ | ⟨x, t, e1, e2⟩
        · rw [r1.1, e1, e2]; exact .int i t
        · rw [r1.1, e1, e2]; exact .str x t
      refine ⟨?_, .cons (by show L2.RelV a.2 e.val; rw [hv]; exact r1.2) h2⟩
      have z := ReadsAll.cons q h1
      rw [List.map_cons, List.map_cons, toPyA]
      exact z
theorem zip_maps {α β : Type} : ∀ {as : List α} {bs : List β}, as.length = bs.length → (as.zip bs).map (·.1) = as ∧ (as.zip bs).map (·.2) = bs
  | [], [], _ => ⟨rfl, rfl⟩
  | a :: as, b :: bs, h => by
    obtain ⟨h1, h2⟩ := zip_maps (as := as) (bs := bs) (by simpa using h)
    exact ⟨by rw [List.zip_cons_cons, List.map_cons, h1], by rw [List.zip_cons_cons, List.map_cons, h2]⟩
  | [], _ :: _, h => by simp at h
  | _ :: _, [], h => by simp at h
mutual
theorem Dq.reads (I : Inv X pins σ H s) : ∀ (d : Dt) (v : V) (u : Value), Dq H v d → plain d = true → RelV v u → ∃ as, Reads s.heap u (toPy d) as ∧ (hasLst d = false → sysModules ∉ as)
  | .non, _, _, h, _, r => by cases h; cases r; exact ⟨[], by rw [toPy]; exact .none, fun _ => List.not_mem_nil⟩
  | .bl b, _, _, h, _, r => by cases h; cases r; exact ⟨[], by rw [toPy]; exact .bool b, fun _ => List.not_mem_nil⟩
  | .int i, _, _, h, _, r => by cases h; obtain ⟨t, rfl⟩ := r; exact ⟨[], by rw [toPy]; exact .int i t, fun _ => List.not_mem_nil⟩
  | .str x, _, _, h, _, r => by cases h; obtain ⟨t, rfl⟩ := r; exact ⟨[], by rw [toPy]; exact .str x t, fun _ => List.not_mem_nil⟩
  | .lst ds, _, _, h, hp, r => by
    cases h with
    | lst hs ha =>
      cases r
      obtain ⟨_, its, n, rv, ho⟩ := (show ObjOk X.prog X.w H s.heap _ (.lst _) from I.hok _ _ hs)
      obtain ⟨as, hr, _⟩ := Dq.readsA I ds _ its ha (by simpa [plain] using hp) rv
      exact ⟨_, by rw [toPy]; exact .list ho rfl rfl hr, fun z => by simp [hasLst] at z⟩
  | .tup ds, _, _, h, hp, r => by
    cases h with
    | tup hs ha =>
      cases r
      obtain ⟨_, its, rv, o, ho, hc, n, hd⟩ := (show ObjOk X.prog X.w H s.heap _ (.tup _) from I.hok _ _ hs)
      obtain ⟨as, hr, hm⟩ := Dq.readsA I ds _ its ha (by simpa [plain] using hp) rv
      exact ⟨as, by rw [toPy]; exact .tuple ho hc hd hr, fun z => hm (by simpa [hasLst] using z)⟩
  | .dic ks ds, _, _, h, hp, r => by
    cases h with
    | @dic a kvs _ hs ha =>
      cases r
      obtain ⟨_, hsm, vs, rv, o, es, ep, ho, hx, hd, _, pr, _⟩ := (show ObjOk X.prog X.w H s.heap _ (.dK _) from I.hok _ _ hs)
      obtain ⟨h1, h2⟩ := dictParts (h := s.heap) pr rv
      obtain ⟨as, hr, hm⟩ := Dq.readsA I ds _ _ ha (by simpa [plain] using hp) h2
      have hl : (toPyA (kvs.map fun kv => keyD kv.1)).length = (toPyA ds).length := by rw [toPyA_len, toPyA_len, List.length_map, ← ha.length, List.length_map]
      obtain ⟨z1, z2⟩ := zip_maps hl
      have z : a ≠ sysModules := by simpa using hsm
      refine ⟨a :: [] ++ as, ?_, fun w => ?_⟩
      · rw [toPy]
        exact .dict ho hx.1 hd (by rw [z1]; exact h1) (by rw [z2]; exact hr)
      · have w' := hm (by simpa [hasLst] using w)
        intro q
        rcases List.mem_cons.mp q with e | e
        · exact z e.symm
        · exact w' e
  | .obj _ _ _, _, _, _, hp, _ => by simp [plain] at hp
theorem Dq.readsA (I : Inv X pins σ H s) : ∀ (ds : List Dt) (vs : List V) (us : List Value), DqA H vs ds → plainA ds = true → Vals vs us → ∃ as, ReadsAll s.heap us (toPyA ds) as ∧ (hasLstA ds = false → sysModules ∉ as)
  | [], _, _, h, _, r => by cases h; cases r; exact ⟨[], by rw [toPyA]; exact .nil, fun _ => List.not_mem_nil⟩
  | d :: ds, _, _, h, hp, r => by
    cases h with
    | cons h1 h2 =>
      cases r with
      | cons r1 r2 =>
        have hp' : plain d = true ∧ plainA ds = true := by simpa [plainA] using hp
        obtain ⟨as, q1, m1⟩ := Dq.reads I d _ _ h1 hp'.1 r1
        obtain ⟨bs, q2, m2⟩ := Dq.readsA I ds _ _ h2 hp'.2 r2
        refine ⟨as ++ bs, by rw [toPyA]; exact .cons q1 q2, fun w => ?_⟩
        have w' : hasLst d = false ∧ hasLstA ds = false := by simpa [hasLstA] using w
        intro q
        rcases List.mem_append.mp q with e | e
        · exact m1 w'.1 e
        · exact m2 w'.2 e
end
/-- what repr is told of, n: the longest text -/
structure Shown (d : Dt) : Prop where
  plain : plain d = true
  one : (toPy d).hasDict = true → hasLst d = false
  shows : (toPy d).showable = true
  len : (toPy d).shown.length ≤ sizeLine
  deep : (toPy d).depth ≤ 60
theorem ca_repr {w : Wd} {μ : Mus} {R : SV → Mus → Prop} {d : Dt} {k : Nat} (hr : Room k X.A) (hg : X.A.guards = some []) (hd : Shown d) (h : R (.dat (.str (toPy d).shown)) μ) : CaD X w (.builtin "repr") [.dat d] μ R := fun B H vs I q Q kk pins s σ us J rv => by
  cases q with
  | cons q1 q2 =>
    cases q2
    obtain ⟨u, rfl, r1⟩ := vals1 rv
    have fin : ∀ {s' : Shared} {t : Tok}, Inv X pins σ H s' → EP X pins σ Q (.str (toPy d).shown t) s' := fun {s' t} J' => ⟨.str _, H, J', ⟨t, rfl⟩, kk (.str _) (.dat (.str _)) B H μ I (Ex.refl B) (Dq.str _) h⟩
    have obj : ∀ a, u = .ref a → wpAny (model X.prog X.w) X.A (call (.builtin "repr") [u]) (EP X pins σ Q) X.xe s := fun a e => by
      obtain ⟨as, rd, hm⟩ := Dq.reads J d _ u (q1.mono I.bh) hd.plain r1
      subst e
      have hu := hr.un
      have hdp := hd.deep
      exact repr_of_reads' rd hd.shows (fun z => hm (hd.one z)) hg (by omega) (fun _ _ e => e) (fun h' t tk keep => fin (J.kept (t' := tk) keep)) hd.len
    clear h kk
    cases d with
    | non =>
      cases q1; cases r1
      simp only [toPy, PyData.shown] at fin
      exact P.repr_of_none (fin (J.tok _))
    | bl b =>
      cases q1; cases r1
      simp only [toPy, PyData.shown] at fin
      refine P.repr_of_bool ?_
      cases b
      · exact fin (J.tok _)
      · exact fin (J.tok _)
    | int i =>
      cases q1; obtain ⟨t, rfl⟩ := r1
      have hs := hd.shows
      simp only [toPy, PyData.shown, PyData.showable, decide_eq_true_eq] at fin hs
      exact P.repr_of_int hs (fin (J.tok _))
    | str x =>
      cases q1; obtain ⟨t, rfl⟩ := r1
      have hl := hd.len
      simp only [toPy, PyData.shown] at fin hl
      exact P.repr_of_str (fin (J.tok _)) hl
    | lst _ => cases q1; exact obj _ r1
    | tup _ => cases q1; exact obj _ r1
    | dic _ _ => cases q1; exact obj _ r1
    | obj _ _ _ => cases q1; exact obj _ r1
end
end Dat

set_option Elab.async false
set_option linter.all false
set_option maxRecDepth 100000
set_option maxHeartbeats 4000000
/-! Dat6: operations, subscripts, built-ins, methods over data. -/
namespace Dat
open PySem PySem.Spec PyProof.Rows L2
/-- a list, data or one that may change -/
def LsQ (r : SV) (μ : Mus) (ds : List Dt) : Prop := r = .dat (.lst ds) ∨ ∃ p, r = .at p ∧ μ p = some (.lst ds)
theorem ls_get {w : Wd} {B H : Hp} {μ : Mus} {v : V} {r : SV} {ds : List Dt} (I : SInv w B H μ) (q : Svq B v r) (h : LsQ r μ ds) : ∃ a xs, v = .ref a ∧ H a = some (.lst xs) ∧ DqA B xs ds := by
  rcases h with rfl | ⟨p, rfl, hm⟩
  · cases q with
    | @lst a xs _ ha hx => exact ⟨a, xs, rfl, I.bh _ _ ha, hx⟩
  · obtain ⟨_, ⟨xs, h1, h2⟩, _⟩ := I.mus p _ hm
    exact ⟨p, xs, q, h1, h2⟩
def cutD (ds : List Dt) (lo hi : Option Int) : List Dt := (ds.drop (HT.sIx ds.length 0 lo)).take (HT.sIx ds.length ds.length hi - HT.sIx ds.length 0 lo)
theorem DqA.cut {H : Hp} {vs : List V} {ds : List Dt} (q : DqA H vs ds) (lo hi : Option Int) : DqA H (cutV vs lo hi) (cutD ds lo hi) := by
  unfold cutV cutD
  rw [q.length]
  exact (q.drop _).take _
theorem DqA.at {H : Hp} {vs : List V} {ds : List Dt} {i : Int} {d : Dt} (q : DqA H vs ds) (h : atI ds i = some d) : ∃ v, atI vs i = some v ∧ Dq H v d := by
  unfold atI at h ⊢
  rw [q.length]
  cases e : ixN ds.length i with
  | none => rw [e] at h; cases h
  | some j =>
    rw [e] at h
    exact q.get h
mutual
def noDic : Dt → Bool
  | .lst xs => noDicA xs | .tup xs => noDicA xs | .dic _ _ => false | .obj _ _ _ => false | _ => true
def noDicA : List Dt → Bool
  | [] => true
  | d :: ds => noDic d && noDicA ds
end
mutual
theorem Dq.toDp {K : PySem.W.Frag} {B H : Hp} (e : Ex B H) : ∀ {v : V} {d : Dt}, Dq B v d → noDic d = true → Dp K H v (toPy d)
  | _, _, .non, _ => by rw [toPy]; exact .non
  | _, _, .bl b, _ => by rw [toPy]; exact .bl b
  | _, _, .int i, _ => by rw [toPy]; exact .int i
  | _, _, .str x, _ => by rw [toPy]; exact .str x
  | _, _, .lst h q, n => by rw [toPy]; exact .lst (.inl (.inl (e _ _ h))) (DqA.toDp e q (by simpa [noDic] using n))
  | _, _, .tup h q, n => by rw [toPy]; exact .tup (.inl (.inl (e _ _ h))) (DqA.toDp e q (by simpa [noDic] using n))
  | _, _, .dic h q, n => by simp [noDic] at n
  | _, _, .obj h q, n => by simp [noDic] at n
theorem DqA.toDp {K : PySem.W.Frag} {B H : Hp} (e : Ex B H) : ∀ {vs : List V} {ds : List Dt}, DqA B vs ds → noDicA ds = true → DpAll K H vs (toPyA ds)
  | _, _, .nil, _ => by rw [toPyA]; exact .nil
  | _, _, .cons h q, n => by
    have n' := Bool.and_eq_true_iff.mp (show (noDic _ && noDicA _) = true by simpa [noDicA] using n)
    rw [toPyA]; exact .cons (Dq.toDp e h n'.1) (DqA.toDp e q n'.2)
end

section
variable {X : Cx} {w : Wd} {μ : Mus} {R : SV → Mus → Prop} {i j : Int} {x y : Str} {xs ys : List Dt}
/-! ### arithmetic, texts, lists, tuples -/
theorem op_addI (h : R (.dat (.int (i + j))) μ) : OpD X w (binaryOp .Add) (.dat (.int i)) (.dat (.int j)) μ R := fun B H v u I q1 q2 Q k => by
  cases q1; cases q2; exact sO_of op_add ⟨i, j, rfl, rfl, k (.int _) (.dat (.int _)) B H μ I (Ex.refl B) (Dq.int _) h⟩
theorem op_subI (h : R (.dat (.int (i - j))) μ) : OpD X w (binaryOp .Sub) (.dat (.int i)) (.dat (.int j)) μ R := fun B H v u I q1 q2 Q k => by
  cases q1; cases q2; exact sO_of op_sub ⟨i, j, rfl, rfl, k (.int _) (.dat (.int _)) B H μ I (Ex.refl B) (Dq.int _) h⟩
theorem op_mulI (hb : (-(2 ^ 64) < i ∧ i < 2 ^ 64) ∨ (-(2 ^ 64) < j ∧ j < 2 ^ 64)) (h : R (.dat (.int (i * j))) μ) : OpD X w (binaryOp .Mult) (.dat (.int i)) (.dat (.int j)) μ R := fun B H v u I q1 q2 Q k => by
  cases q1; cases q2; exact sO_of op_mul ⟨i, j, rfl, rfl, hb, k (.int _) (.dat (.int _)) B H μ I (Ex.refl B) (Dq.int _) h⟩
theorem op_modI (hj : 0 < j) (h : R (.dat (.int (i % j))) μ) : OpD X w (binaryOp .Mod) (.dat (.int i)) (.dat (.int j)) μ R := fun B H v u I q1 q2 Q k => by
  cases q1; cases q2; exact sO_of op_mod ⟨i, j, rfl, rfl, hj, k (.int _) (.dat (.int _)) B H μ I (Ex.refl B) (Dq.int _) h⟩
theorem op_fdivI (hj : 0 < j) (hj2 : j < 1073741824) (h : R (.dat (.int (i / j))) μ) : OpD X w (binaryOp .FloorDiv) (.dat (.int i)) (.dat (.int j)) μ R := fun B H v u I q1 q2 Q k => by
  cases q1; cases q2; exact sO_of op_fdiv ⟨i, j, rfl, rfl, ⟨hj, hj2⟩, k (.int _) (.dat (.int _)) B H μ I (Ex.refl B) (Dq.int _) h⟩
theorem op_powI (hj : 0 ≤ j) (hj2 : j ≤ 1000000) (hi : i.natAbs < 2 ^ 64) (h : R (.dat (.int (i ^ j.toNat))) μ) : OpD X w (binaryOp .Pow) (.dat (.int i)) (.dat (.int j)) μ R := fun B H v u I q1 q2 Q k => by
  cases q1; cases q2; exact sO_of op_pow ⟨i, j, rfl, rfl, ⟨hj, hj2, hi⟩, k (.int _) (.dat (.int _)) B H μ I (Ex.refl B) (Dq.int _) h⟩
theorem un_negI (h : R (.dat (.int (-i))) μ) : UnD X w (unaryOp .USub) (.dat (.int i)) μ R := fun B H v I q Q k => by
  cases q; exact sU_of un_neg ⟨i, rfl, k (.int _) (.dat (.int _)) B H μ I (Ex.refl B) (Dq.int _) h⟩
theorem op_addS (hl : x.length + y.length ≤ sizeLine) (h : R (.dat (.str (x ++ y))) μ) : OpD X w (binaryOp .Add) (.dat (.str x)) (.dat (.str y)) μ R := fun B H v u I q1 q2 Q k => by
  cases q1; cases q2; exact sO_of op_add_str ⟨x, y, rfl, rfl, hl, k (.str _) (.dat (.str _)) B H μ I (Ex.refl B) (Dq.str _) h⟩
theorem op_addT (hl : xs.length + ys.length ≤ sizeLine) (h : R (.dat (.tup (xs ++ ys))) μ) : OpD X w (binaryOp .Add) (.dat (.tup xs)) (.dat (.tup ys)) μ R := fun B H v u I q1 q2 Q k => by
  cases q1 with
  | @tup a as _ ha hx =>
    cases q2 with
    | @tup b bs _ hb hy =>
      refine sO_of op_catA ⟨a, b, as, bs, rfl, rfl, .inl (.inl (I.bh _ _ ha)), .inl (.inl (I.bh _ _ hb)), by rw [hx.length, hy.length]; exact hl, fun e => ?_, fun _ e => ?_, fun _ _ p hp => ?_⟩
      · subst e
        cases hx
        exact k _ (.dat (.tup ([] ++ ys))) B H μ I (Ex.refl B) (Dq.tup hb hy) h
      · subst e
        cases hy
        exact k _ (.dat (.tup (xs ++ []))) B H μ I (Ex.refl B) (by rw [List.append_nil]; exact Dq.tup ha hx) h
      · have f := (I.free hp).1
        exact k _ (.dat (.tup (xs ++ ys))) _ _ μ (I.new hp _) (Ex.new f) (Dq.tup upd_same ((hx.append hy).mono (Ex.new f))) h
theorem op_addL {r r' : SV} (h1 : LsQ r μ xs) (h2 : LsQ r' μ ys) (hl : xs.length + ys.length ≤ sizeLine) (h : R (.dat (.lst (xs ++ ys))) μ) : OpD X w (binaryOp .Add) r r' μ R := fun B H v u I q1 q2 Q k => by
  obtain ⟨a, as, rfl, ha, hx⟩ := ls_get I q1 h1
  obtain ⟨b, bs, rfl, hb, hy⟩ := ls_get I q2 h2
  refine sO_of op_cat ⟨a, b, as, bs, rfl, rfl, ha, hb, by rw [hx.length, hy.length]; exact hl, fun p hp => ?_⟩
  have f := (I.free hp).1
  exact k _ (.dat (.lst (xs ++ ys))) _ _ μ (I.new hp _) (Ex.new f) (Dq.lst upd_same ((hx.append hy).mono (Ex.new f))) h

/-! ### comparisons -/
theorem op_cmpI {op : CmpOp} {g : Int → Int → Bool} (ho : OpR X (compareOp op) (rI0 fun i j => .bl (g i j))) (h : R (.dat (.bl (g i j))) μ) : OpD X w (compareOp op) (.dat (.int i)) (.dat (.int j)) μ R := fun B H v u I q1 q2 Q k => by
  cases q1; cases q2; exact sO_of ho ⟨i, j, rfl, rfl, k (.bl _) (.dat (.bl _)) B H μ I (Ex.refl B) (Dq.bl _) h⟩
theorem op_ltI (h : R (.dat (.bl (decide (i < j)))) μ) : OpD X w (compareOp .Lt) (.dat (.int i)) (.dat (.int j)) μ R := op_cmpI op_lt h
theorem op_leI (h : R (.dat (.bl (decide (i ≤ j)))) μ) : OpD X w (compareOp .LtE) (.dat (.int i)) (.dat (.int j)) μ R := op_cmpI op_le h
theorem op_gtI (h : R (.dat (.bl (decide (j < i)))) μ) : OpD X w (compareOp .Gt) (.dat (.int i)) (.dat (.int j)) μ R := op_cmpI op_gt h
theorem op_geI (h : R (.dat (.bl (decide (j ≤ i)))) μ) : OpD X w (compareOp .GtE) (.dat (.int i)) (.dat (.int j)) μ R := op_cmpI op_ge h
theorem op_eqI (h : R (.dat (.bl (decide (i = j)))) μ) : OpD X w (compareOp .Eq) (.dat (.int i)) (.dat (.int j)) μ R := fun B H v u I q1 q2 Q k => by
  cases q1; cases q2
  have e : decide (V.int i = V.int j) = decide (i = j) := by simp
  exact sO_of op_eq ⟨rfl, k (.bl _) (.dat (.bl _)) B H μ I (Ex.refl B) (Dq.bl _) (by rw [e]; exact h)⟩
theorem op_neI (h : R (.dat (.bl (!decide (i = j)))) μ) : OpD X w (compareOp .NotEq) (.dat (.int i)) (.dat (.int j)) μ R := fun B H v u I q1 q2 Q k => by
  cases q1; cases q2
  have e : decide (V.int i = V.int j) = decide (i = j) := by simp
  exact sO_of op_ne ⟨rfl, k (.bl _) (.dat (.bl _)) B H μ I (Ex.refl B) (Dq.bl _) (by rw [e]; exact h)⟩
theorem op_eqS (h : R (.dat (.bl (decide (x = y)))) μ) : OpD X w (compareOp .Eq) (.dat (.str x)) (.dat (.str y)) μ R := fun B H v u I q1 q2 Q k => by
  cases q1; cases q2
  have e : decide (V.str x = V.str y) = decide (x = y) := by simp
  exact sO_of op_eq ⟨rfl, k (.bl _) (.dat (.bl _)) B H μ I (Ex.refl B) (Dq.bl _) (by rw [e]; exact h)⟩
theorem op_neS (h : R (.dat (.bl (!decide (x = y)))) μ) : OpD X w (compareOp .NotEq) (.dat (.str x)) (.dat (.str y)) μ R := fun B H v u I q1 q2 Q k => by
  cases q1; cases q2
  have e : decide (V.str x = V.str y) = decide (x = y) := by simp
  exact sO_of op_ne ⟨rfl, k (.bl _) (.dat (.bl _)) B H μ I (Ex.refl B) (Dq.bl _) (by rw [e]; exact h)⟩
theorem op_leS (h : R (.dat (.bl (!decide (y.cps.toList < x.cps.toList)))) μ) : OpD X w (compareOp .LtE) (.dat (.str x)) (.dat (.str y)) μ R := fun B H v u I q1 q2 Q k => by
  cases q1; cases q2; exact sO_of op_le_str ⟨x, y, rfl, rfl, k (.bl _) (.dat (.bl _)) B H μ I (Ex.refl B) (Dq.bl _) h⟩
/-- lists, tuples, whatever they hold (no dicts) -/
theorem op_eqDt {d e : Dt} {k : Nat} (hr : Room k X.A) (hd : noDic d = true) (he : noDic e = true) (s1 : SeqAt.shaped (toPy d) = true) (s2 : SeqAt.shaped (toPy e) = true) (h : R (.dat (.bl (PyData.eqv (toPy d) (toPy e)))) μ) : OpD X w (compareOp .Eq) (.dat d) (.dat e) μ R := fun B H v u I q1 q2 Q k =>
  sO_of (op_eqD hr.units) ⟨_, _, Dq.toDp I.bh q1 hd, Dq.toDp I.bh q2 he, s1, s2, k (.bl _) (.dat (.bl _)) B H μ I (Ex.refl B) (Dq.bl _) h⟩
theorem op_neDt {d e : Dt} {k : Nat} (hr : Room k X.A) (hd : noDic d = true) (he : noDic e = true) (s1 : SeqAt.shaped (toPy d) = true) (s2 : SeqAt.shaped (toPy e) = true) (h : R (.dat (.bl (!PyData.eqv (toPy d) (toPy e)))) μ) : OpD X w (compareOp .NotEq) (.dat d) (.dat e) μ R := fun B H v u I q1 q2 Q k =>
  sO_of (op_neD hr.units) ⟨_, _, Dq.toDp I.bh q1 hd, Dq.toDp I.bh q2 he, s1, s2, k (.bl _) (.dat (.bl _)) B H μ I (Ex.refl B) (Dq.bl _) h⟩
theorem op_signIn {c : Nat} (h : R (.dat (.bl (decide (c ∈ y.cps.toList)))) μ) : OpD X w (compareOp .In) (.dat (.str ⟨#[c]⟩)) (.dat (.str y)) μ R := fun B H v u I q1 q2 Q k => by
  cases q1; cases q2; exact sO_of op_in_sign ⟨c, y, rfl, rfl, k (.bl _) (.dat (.bl _)) B H μ I (Ex.refl B) (Dq.bl _) h⟩
theorem op_signNotIn {c : Nat} (h : R (.dat (.bl (!decide (c ∈ y.cps.toList)))) μ) : OpD X w (compareOp .NotIn) (.dat (.str ⟨#[c]⟩)) (.dat (.str y)) μ R := fun B H v u I q1 q2 Q k => by
  cases q1; cases q2; exact sO_of op_notIn_sign ⟨c, y, rfl, rfl, k (.bl _) (.dat (.bl _)) B H μ I (Ex.refl B) (Dq.bl _) h⟩
theorem inV_strs : ∀ (x : Str) (zs : List Str), inV (.str x) (zs.map V.str) = decide (x ∈ zs)
  | x, [] => rfl
  | x, z :: zs => by
    have ih := inV_strs x zs
    unfold inV at ih ⊢
    rw [List.map_cons, List.any_cons, ih]
    show ((z == x) || _) = _
    by_cases e : z = x
    · subst e; simp
    · have e' : ¬ x = z := fun q => e q.symm
      have b : (z == x) = false := by simpa using e
      rw [b]; simp [e']
theorem flat_strs : ∀ zs : List Str, (zs.map V.str).all flatV = true
  | [] => rfl
  | z :: zs => by rw [List.map_cons, List.all_cons, flat_strs zs]; rfl
theorem op_notInL {r : SV} {zs : List Str} (h1 : LsQ r μ (zs.map Dt.str)) (h : R (.dat (.bl (!decide (x ∈ zs)))) μ) : OpD X w (compareOp .NotIn) (.dat (.str x)) r μ R := fun B H v u I q1 q2 Q k => by
  cases q1
  obtain ⟨a, as, rfl, ha, hx⟩ := ls_get I q2 h1
  have e := DqA.strs hx
  subst e
  refine sO_of op_notIn_seq ⟨a, _, rfl, .inl (.inl (.inl ha)), rfl, flat_strs zs, ?_⟩
  rw [if_pos rfl, inV_strs]
  exact k (.bl _) (.dat (.bl _)) B H μ I (Ex.refl B) (Dq.bl _) h
theorem op_inL {r : SV} {zs : List Str} (h1 : LsQ r μ (zs.map Dt.str)) (h : R (.dat (.bl (decide (x ∈ zs)))) μ) : OpD X w (compareOp .In) (.dat (.str x)) r μ R := fun B H v u I q1 q2 Q k => by
  cases q1
  obtain ⟨a, as, rfl, ha, hx⟩ := ls_get I q2 h1
  have e := DqA.strs hx
  subst e
  refine sO_of op_in_seq ⟨a, _, rfl, .inl (.inl (.inl ha)), rfl, flat_strs zs, ?_⟩
  rw [if_neg Bool.false_ne_true, inV_strs]
  exact k (.bl _) (.dat (.bl _)) B H μ I (Ex.refl B) (Dq.bl _) h

/-! ### subscripts, slices -/
theorem ix_dL {r : SV} {d : Dt} (h1 : LsQ r μ xs) (ha : atI xs i = some d) (h : R (.dat d) μ) : IxD X w r (.dat (.int i)) μ R := fun B H v u I q1 q2 Q k => by
  cases q2
  obtain ⟨a, as, rfl, hH, hx⟩ := ls_get I q1 h1
  obtain ⟨v, e1, e2⟩ := hx.at ha
  exact sIx_of ix_list ⟨a, as, i, v, rfl, rfl, .inl (.inl hH), e1, k v (.dat d) B H μ I (Ex.refl B) e2 h⟩
theorem ix_dT {d : Dt} (ha : atI xs i = some d) (h : R (.dat d) μ) : IxD X w (.dat (.tup xs)) (.dat (.int i)) μ R := fun B H v u I q1 q2 Q k => by
  cases q2
  cases q1 with
  | @tup a as _ hH hx =>
    obtain ⟨v, e1, e2⟩ := hx.at ha
    exact sIx_of ix_tup ⟨a, as, i, v, rfl, rfl, .inl (.inl (I.bh _ _ hH)), e1, k v (.dat d) B H μ I (Ex.refl B) e2 h⟩
theorem ix_dS {c : Nat} (hl : x.length ≤ sizeLine) (ha : atI x.cps.toList i = some c) (h : R (.dat (.str ⟨#[c]⟩)) μ) : IxD X w (.dat (.str x)) (.dat (.int i)) μ R := fun B H v u I q1 q2 Q k => by
  cases q1; cases q2; exact sIx_of ix_str ⟨x, i, c, rfl, rfl, hl, ha, k (.str _) (.dat (.str _)) B H μ I (Ex.refl B) (Dq.str _) h⟩
theorem ix_pot0 {p : Addr} (hm : μ p = some .pot) (h : ∀ a : Int, 0 ≤ a → R (.dat (.int a)) μ) : IxD X w (.at p) (.dat (.int 0)) μ R := fun B H v u I q1 q2 Q k => by
  cases q2
  cases (show v = V.ref p from q1)
  obtain ⟨_, ⟨a, b, ha, hb, hb2, hH⟩, _⟩ := I.mus p _ hm
  exact sIx_of ix_list ⟨p, _, 0, _, rfl, rfl, .inl (.inl hH), rfl, k (.int a) (.dat (.int a)) B H μ I (Ex.refl B) (Dq.int _) (h a ha)⟩
theorem ix_pot1 {p : Addr} (hm : μ p = some .pot) (h : ∀ b : Int, 0 ≤ b → b < 4294967296 → R (.dat (.int b)) μ) : IxD X w (.at p) (.dat (.int 1)) μ R := fun B H v u I q1 q2 Q k => by
  cases q2
  cases (show v = V.ref p from q1)
  obtain ⟨_, ⟨a, b, ha, hb, hb2, hH⟩, _⟩ := I.mus p _ hm
  exact sIx_of ix_list ⟨p, _, 1, _, rfl, rfl, .inl (.inl hH), rfl, k (.int b) (.dat (.int b)) B H μ I (Ex.refl B) (Dq.int _) (h b hb hb2)⟩
theorem ix_sc {a : Addr} {ns : List Int} {n : Int} (ha : atI ns i = some n) (h : R (.dat (.int n)) μ) : IxD X w (.sc X.K a ns) (.dat (.int i)) μ R := fun B H v u I q1 q2 Q k => by
  cases q2
  obtain ⟨rfl, sq⟩ := q1
  have e : atI (ns.map V.int) i = some (.int n) := by
    unfold atI at ha ⊢
    rw [List.length_map]
    cases hj : ixN ns.length i with
    | none => rw [hj] at ha; cases ha
    | some j =>
      rw [hj] at ha
      show (ns.map V.int)[j]? = _
      rw [List.getElem?_map, show ns[j]? = some n from ha]
      rfl
  refine sIx_of ix_list ⟨a, _, i, _, rfl, rfl, ?_, e, k (.int n) (.dat (.int n)) B H μ I (Ex.refl B) (Dq.int _) h⟩
  exact sq.elim (fun z => .inl (z.elim (fun q => .inl (I.bh _ _ q)) fun ⟨c, q⟩ => .inr ⟨c, I.bh _ _ q⟩)) .inr
theorem sl_dT {lo hi : Option Int} (h : R (.dat (.tup (cutD xs lo hi))) μ) : SlD X w (.dat (.tup xs)) lo hi μ R := fun B H v I q Q k => by
  cases q with
  | @tup a as _ ha hx =>
    refine sSl_of sl_tupA ⟨a, as, rfl, .inl (.inl (I.bh _ _ ha)), fun z => ?_, fun _ p hp => ?_⟩
    · have e : cutD xs lo hi = xs := by
        unfold cutD
        rw [← hx.length, z.1, z.2, List.drop_zero, Nat.sub_zero, hx.length, List.take_length]
      exact k _ (.dat (.tup (cutD xs lo hi))) B H μ I (Ex.refl B) (by rw [e]; exact Dq.tup ha hx) h
    · have f := (I.free hp).1
      exact k _ (.dat (.tup (cutD xs lo hi))) _ _ μ (I.new hp _) (Ex.new f) (Dq.tup upd_same ((hx.cut lo hi).mono (Ex.new f))) h
theorem sl_dS {lo hi : Option Int} (hl : x.length ≤ sizeLine) (h : R (.dat (.str (cutS x lo hi))) μ) : SlD X w (.dat (.str x)) lo hi μ R := fun B H v I q Q k => by
  cases q; exact sSl_of sl_str ⟨x, rfl, hl, k (.str _) (.dat (.str _)) B H μ I (Ex.refl B) (Dq.str _) h⟩

/-! ### built-ins -/
theorem SvA.one {B : Hp} {vs : List V} {r : SV} (h : SvA B vs [r]) : ∃ v, vs = [v] ∧ Svq B v r := by
  cases h with | cons a b => cases b; exact ⟨_, rfl, a⟩
theorem SvA.two {B : Hp} {vs : List V} {r s : SV} (h : SvA B vs [r, s]) : ∃ v u, vs = [v, u] ∧ Svq B v r ∧ Svq B u s := by
  cases h with | cons a b => cases b with | cons c d => cases d; exact ⟨_, _, rfl, a, c⟩
theorem ca_max2 (hc : X.calm = true) (h : R (.dat (.int (max i j))) μ) : CaD X w (.builtin "max") [.dat (.int i), .dat (.int j)] μ R := fun B H vs I q Q k => by
  obtain ⟨v, u, rfl, q1, q2⟩ := q.two
  cases q1; cases q2
  have e : (if j > i then j else i) = max i j := by omega
  exact sC_of (call_max2 hc) ⟨i, j, rfl, by rw [e]; exact k (.int _) (.dat (.int _)) B H μ I (Ex.refl B) (Dq.int _) h⟩
theorem ca_min2 (hc : X.calm = true) (h : R (.dat (.int (min i j))) μ) : CaD X w (.builtin "min") [.dat (.int i), .dat (.int j)] μ R := fun B H vs I q Q k => by
  obtain ⟨v, u, rfl, q1, q2⟩ := q.two
  cases q1; cases q2
  have e : (if j < i then j else i) = min i j := by omega
  exact sC_of (call_min2 hc) ⟨i, j, rfl, by rw [e]; exact k (.int _) (.dat (.int _)) B H μ I (Ex.refl B) (Dq.int _) h⟩
theorem ca_maxL {r : SV} {ns : List Int} (hc : X.calm = true) (h1 : LsQ r μ (ns.map Dt.int)) (h0 : 0 < ns.length) (h : ∀ m, m ∈ ns → (∀ y, y ∈ ns → y ≤ m) → R (.dat (.int m)) μ) : CaD X w (.builtin "max") [r] μ R := fun B H vs I q Q k => by
  obtain ⟨v, rfl, q1⟩ := q.one
  obtain ⟨a, as, rfl, ha, hx⟩ := ls_get I q1 h1
  have e := DqA.ints hx
  subst e
  exact sC_of (cr_max hc) ⟨a, ns, rfl, .inl (.inl ha), h0, fun m hm hle => k (.int m) (.dat (.int m)) B H μ I (Ex.refl B) (Dq.int _) (h m hm hle)⟩
theorem ca_lenL {r : SV} (h1 : LsQ r μ xs) (h : R (.dat (.int (xs.length : Int))) μ) : CaD X w (.builtin "len") [r] μ R := fun B H vs I q Q k => by
  obtain ⟨v, rfl, q1⟩ := q.one
  obtain ⟨a, as, rfl, ha, hx⟩ := ls_get I q1 h1
  exact sC_of call_len_seq ⟨a, as, rfl, .inl (.inl (.inl ha)), by rw [hx.length]; exact k (.int _) (.dat (.int _)) B H μ I (Ex.refl B) (Dq.int _) h⟩
theorem ca_lenT (h : R (.dat (.int (xs.length : Int))) μ) : CaD X w (.builtin "len") [.dat (.tup xs)] μ R := fun B H vs I q Q k => by
  obtain ⟨v, rfl, q1⟩ := q.one
  cases q1 with
  | @tup a as _ ha hx => exact sC_of call_len_seq ⟨a, as, rfl, .inr (.inl (.inl (I.bh _ _ ha))), by rw [hx.length]; exact k (.int _) (.dat (.int _)) B H μ I (Ex.refl B) (Dq.int _) h⟩
theorem ca_lenSc {a : Addr} {ns : List Int} (h : R (.dat (.int (ns.length : Int))) μ) : CaD X w (.builtin "len") [.sc X.K a ns] μ R := fun B H vs I q Q k => by
  obtain ⟨v, rfl, q1⟩ := q.one
  obtain ⟨rfl, sq⟩ := q1
  refine sC_of call_len_seq ⟨a, ns.map V.int, rfl, .inl ?_, by rw [show (ns.map V.int).length = ns.length from List.length_map _]; exact k (.int _) (.dat (.int _)) B H μ I (Ex.refl B) (Dq.int _) h⟩
  exact sq.elim (fun z => .inl (z.elim (fun q => .inl (I.bh _ _ q)) fun ⟨c, q⟩ => .inr ⟨c, I.bh _ _ q⟩)) .inr
theorem ca_lenS (hl : x.length ≤ sizeLine) (h : R (.dat (.int (x.length : Int))) μ) : CaD X w (.builtin "len") [.dat (.str x)] μ R := fun B H vs I q Q k => by
  obtain ⟨v, rfl, q1⟩ := q.one
  cases q1
  exact sC_of call_len_str ⟨x, rfl, hl, k (.int _) (.dat (.int _)) B H μ I (Ex.refl B) (Dq.int _) h⟩
theorem ca_all {r : SV} {bs : List Bool} (hc : X.calm = true) (h1 : LsQ r μ (bs.map Dt.bl)) (h : R (.dat (.bl (bs.all id))) μ) : CaD X w (.builtin "all") [r] μ R := fun B H vs I q Q k => by
  obtain ⟨v, rfl, q1⟩ := q.one
  obtain ⟨a, as, rfl, ha, hx⟩ := ls_get I q1 h1
  have e := DqA.bls hx
  subst e
  exact sC_of (cr_all hc) ⟨a, bs, rfl, .inl (.inl ha), k (.bl _) (.dat (.bl _)) B H μ I (Ex.refl B) (Dq.bl _) h⟩
theorem ca_listT (h : R (.dat (.lst xs)) μ) : CaD X w (.type "list") [.dat (.tup xs)] μ R := fun B H vs I q Q k => by
  obtain ⟨v, rfl, q1⟩ := q.one
  cases q1 with
  | @tup a as _ ha hx => exact sC_of call_list_of ⟨a, as, rfl, .inr (.inl (.inl (I.bh _ _ ha))), fun p hp => k (.ref p) (.dat (.lst xs)) _ _ μ (I.new hp _) (Ex.new (I.free hp).1) (Dq.lst upd_same (hx.mono (Ex.new (I.free hp).1))) h⟩
theorem ca_listL {r : SV} (h1 : LsQ r μ xs) (h : R (.dat (.lst xs)) μ) : CaD X w (.type "list") [r] μ R := fun B H vs I q Q k => by
  obtain ⟨v, rfl, q1⟩ := q.one
  obtain ⟨a, as, rfl, ha, hx⟩ := ls_get I q1 h1
  exact sC_of call_list_of ⟨a, as, rfl, .inl (.inl (.inl ha)), fun p hp => k (.ref p) (.dat (.lst xs)) _ _ μ (I.new hp _) (Ex.new (I.free hp).1) (Dq.lst upd_same (hx.mono (Ex.new (I.free hp).1))) h⟩
theorem ca_tupL {r : SV} (h1 : LsQ r μ xs) (h : R (.dat (.tup xs)) μ) : CaD X w (.type "tuple") [r] μ R := fun B H vs I q Q k => by
  obtain ⟨v, rfl, q1⟩ := q.one
  obtain ⟨a, as, rfl, ha, hx⟩ := ls_get I q1 h1
  exact sC_of call_tuple_of ⟨a, as, rfl, .inl ⟨.inl (.inl ha), fun p hp => k (.ref p) (.dat (.tup xs)) _ _ μ (I.new hp _) (Ex.new (I.free hp).1) (Dq.tup upd_same (hx.mono (Ex.new (I.free hp).1))) h⟩⟩
theorem ca_divmod (hj : 0 < j) (hj2 : j < 1073741824) (h : R (.dat (.tup [.int (i / j), .int (i % j)])) μ) : CaD X w (.builtin "divmod") [.dat (.int i), .dat (.int j)] μ R := fun B H vs I q Q k => by
  obtain ⟨v, u, rfl, q1, q2⟩ := q.two
  cases q1; cases q2
  exact sC_of call_divmod ⟨i, j, rfl, ⟨hj, hj2⟩, fun p hp => k (.ref p) (.dat (.tup [.int (i / j), .int (i % j)])) _ _ μ (I.new hp _) (Ex.new (I.free hp).1) (Dq.tup upd_same (DqA.ofInts [i / j, i % j])) h⟩

/-! ### isinstance -/
def tyD : Dt → String
  | .non => "NoneType" | .bl _ => "bool" | .int _ => "int" | .str _ => "str" | .lst _ => "list" | .tup _ => "tuple" | .dic _ _ => "dict" | .obj _ _ _ => ""
def isObj' : Dt → Bool
  | .obj _ _ _ => true
  | _ => false
def isStr : Dt → Bool
  | .str _ => true
  | _ => false
def isInt : Dt → Bool
  | .int _ => true
  | .bl _ => true
  | _ => false
def isBl : Dt → Bool
  | .bl _ => true
  | _ => false
def isTup : Dt → Bool
  | .tup _ => true
  | _ => false
def isLst : Dt → Bool
  | .lst _ => true
  | _ => false
def isDic : Dt → Bool
  | .dic _ _ => true
  | _ => false
theorem Dq.ty {K : PySem.W.Frag} {B H : Hp} (e : Ex B H) {v : V} {d : Dt} (q : Dq B v d) (h : isObj' d = false) : TyX K H v (.type (tyD d)) := by
  cases q with
  | non => exact .base .non
  | bl b => exact .base (.bl b)
  | int i => exact .base (.int i)
  | str x => exact .base (.str x)
  | lst ha _ => exact .base (.lst (e _ _ ha))
  | tup ha _ => exact .base (.tup (e _ _ ha))
  | dic ha _ => exact .base (.dK (e _ _ ha))
  | obj _ _ => cases h
theorem ca_isi {d : Dt} {T : String} {b : Bool} (ho : isObj' d = false) (hk : kitB (tyD d) T = some b) (h : R (.dat (.bl b)) μ) : CaD X w (.builtin "isinstance") [.dat d, .ty T] μ R := fun B H vs I q Q k => by
  obtain ⟨v, u, rfl, q1, q2⟩ := q.two
  cases (show u = V.ty T from q2)
  exact sC_of call_isi ⟨v, .ty T, _, _, b, rfl, .ty T, Dq.ty I.bh q1 ho, kit_ty hk, k (.bl b) (.dat (.bl b)) B H μ I (Ex.refl B) (Dq.bl _) h⟩
theorem kit_str (d : Dt) (h : isObj' d = false) : kitB (tyD d) "str" = some (isStr d) := by
  cases d with
  | obj _ _ _ => simp [isObj'] at h
  | non => exact (by decide +kernel : kitB "NoneType" "str" = some false)
  | bl _ => exact (by decide +kernel : kitB "bool" "str" = some false)
  | int _ => exact (by decide +kernel : kitB "int" "str" = some false)
  | str _ => exact (by decide +kernel : kitB "str" "str" = some true)
  | lst _ => exact (by decide +kernel : kitB "list" "str" = some false)
  | tup _ => exact (by decide +kernel : kitB "tuple" "str" = some false)
  | dic _ _ => exact (by decide +kernel : kitB "dict" "str" = some false)
theorem kit_int (d : Dt) (h : isObj' d = false) : kitB (tyD d) "int" = some (isInt d) := by
  cases d with
  | obj _ _ _ => simp [isObj'] at h
  | non => exact (by decide +kernel : kitB "NoneType" "int" = some false)
  | bl _ => exact (by decide +kernel : kitB "bool" "int" = some true)
  | int _ => exact (by decide +kernel : kitB "int" "int" = some true)
  | str _ => exact (by decide +kernel : kitB "str" "int" = some false)
  | lst _ => exact (by decide +kernel : kitB "list" "int" = some false)
  | tup _ => exact (by decide +kernel : kitB "tuple" "int" = some false)
  | dic _ _ => exact (by decide +kernel : kitB "dict" "int" = some false)
theorem kit_bool (d : Dt) (h : isObj' d = false) : kitB (tyD d) "bool" = some (isBl d) := by
  cases d with
  | obj _ _ _ => simp [isObj'] at h
  | non => exact (by decide +kernel : kitB "NoneType" "bool" = some false)
  | bl _ => exact (by decide +kernel : kitB "bool" "bool" = some true)
  | int _ => exact (by decide +kernel : kitB "int" "bool" = some false)
  | str _ => exact (by decide +kernel : kitB "str" "bool" = some false)
  | lst _ => exact (by decide +kernel : kitB "list" "bool" = some false)
  | tup _ => exact (by decide +kernel : kitB "tuple" "bool" = some false)
  | dic _ _ => exact (by decide +kernel : kitB "dict" "bool" = some false)
theorem kit_tuple (d : Dt) (h : isObj' d = false) : kitB (tyD d) "tuple" = some (isTup d) := by
  cases d with
  | obj _ _ _ => simp [isObj'] at h
  | non => exact (by decide +kernel : kitB "NoneType" "tuple" = some false)
  | bl _ => exact (by decide +kernel : kitB "bool" "tuple" = some false)
  | int _ => exact (by decide +kernel : kitB "int" "tuple" = some false)
  | str _ => exact (by decide +kernel : kitB "str" "tuple" = some false)
  | lst _ => exact (by decide +kernel : kitB "list" "tuple" = some false)
  | tup _ => exact (by decide +kernel : kitB "tuple" "tuple" = some true)
  | dic _ _ => exact (by decide +kernel : kitB "dict" "tuple" = some false)
theorem kit_list (d : Dt) (h : isObj' d = false) : kitB (tyD d) "list" = some (isLst d) := by
  cases d with
  | obj _ _ _ => simp [isObj'] at h
  | non => exact (by decide +kernel : kitB "NoneType" "list" = some false)
  | bl _ => exact (by decide +kernel : kitB "bool" "list" = some false)
  | int _ => exact (by decide +kernel : kitB "int" "list" = some false)
  | str _ => exact (by decide +kernel : kitB "str" "list" = some false)
  | lst _ => exact (by decide +kernel : kitB "list" "list" = some true)
  | tup _ => exact (by decide +kernel : kitB "tuple" "list" = some false)
  | dic _ _ => exact (by decide +kernel : kitB "dict" "list" = some false)
theorem kit_dict (d : Dt) (h : isObj' d = false) : kitB (tyD d) "dict" = some (isDic d) := by
  cases d with
  | obj _ _ _ => simp [isObj'] at h
  | non => exact (by decide +kernel : kitB "NoneType" "dict" = some false)
  | bl _ => exact (by decide +kernel : kitB "bool" "dict" = some false)
  | int _ => exact (by decide +kernel : kitB "int" "dict" = some false)
  | str _ => exact (by decide +kernel : kitB "str" "dict" = some false)
  | lst _ => exact (by decide +kernel : kitB "list" "dict" = some false)
  | tup _ => exact (by decide +kernel : kitB "tuple" "dict" = some false)
  | dic _ _ => exact (by decide +kernel : kitB "dict" "dict" = some true)
/-! ### methods -/
theorem ty_lst {K : PySem.W.Frag} {r : SV} (h1 : LsQ r μ xs) : TyD K "list" r μ := fun w B H v I q => by
  obtain ⟨a, as, rfl, ha, hx⟩ := ls_get I q h1
  exact .inl ⟨rfl, as, .inl (.inl ha)⟩
theorem ty_str {K : PySem.W.Frag} : TyD K "str" (.dat (.str x)) μ := fun w B H v I q => by cases q; rfl
theorem mt_appendM {p : Addr} {d : Dt} (hm : μ p = some (.lst xs)) (hl : xs.length < 100000) (h : R (.dat .non) (μ.put p (.lst (xs ++ [d])))) : MtD X w "list.append" (.at p) [.dat d] μ R := fun B H v vs I q qs Q k => by
  obtain ⟨u, rfl, q1⟩ := qs.one
  cases (show v = V.ref p from q)
  obtain ⟨_, ⟨as, ha, hx⟩, _⟩ := I.mus p _ hm
  exact sM_of mt_append ⟨p, as, u, rfl, rfl, ha, Nat.lt_of_lt_of_le (by rw [hx.length]; exact hl) (by decide : 100000 ≤ sizeLine),
    k .non (.dat .non) B _ _ (I.set hm (.lst (xs ++ [d])) ⟨as ++ [u], upd_same, hx.snoc q1⟩) (Ex.refl B) Dq.non h⟩
end
end Dat

set_option Elab.async false
set_option linter.all false
set_option maxRecDepth 100000
set_option maxHeartbeats 4000000
/-! Dat7: more methods of texts; the law's call at the top, where no repr is under way. -/
namespace Dat
open PySem PySem.Spec PyProof.Rows L2
section
variable {P : Program} {w : World} {K : PySem.W.Frag} {mg mb : Str → Option Value} {k : Nat} {fa a : Addr} {fd : FuncData} {x : Str} {sp : Sp} {s₁ : Shared} {vs : List Value} {ns : List Int}
theorem top_core (KX : K.In s₁.heap) (g : s₁.heap.Ns mainGlobals mg) (b : s₁.heap.Ns builtinsNs mb) (bb : ∀ x : Str, x ≠ "__name__" → mb x = bootBuiltins x) (lim : s₁.heap.NoLimit) (gn : s₁.gens = #[])
    (ha : s₁.heap.get? a = some { cls := .type "list", data := .seq vs.toArray }) (hr : Room k callerA)
    (F : ∀ base : Heap, K.In base → base.Ns mainGlobals mg → FnG P w K mg base k fa fd [x] sp) (bd : ∀ (s : Shared) (u : Value), BindsTo s fd ⟨[u], []⟩ [(x, u)])
    (H : Hp) (ok : HOk P w H s₁.heap) (own : ∀ c, H c ≠ none → c = a ∧ K.lookup a = none) (fz : ∀ c u, H c = some u → ∃ o xs, u = .frz o (.lst xs)) (q : sp [.ref a] H (fun v _ => v = .bl true) fun _ _ _ => False) :
    codeAny (model P w) callerA (.call (.ref fa) ⟨[.ref a], []⟩) (fun r s' => r = .ok (.ret (.bool true)) ∧ OldK s₁.heap s'.heap ∧ s'.os = s₁.os ∧ AllBare s'.gens) s₁ := by
  have free_of : ∀ {c : Addr} {o : Obj}, s₁.heap.get? c = some o → (∀ z n, o.data ≠ .seq z n) → H c = none := fun {c o} e nd => by
    cases z : H c with
    | none => rfl
    | some u =>
      have e2 := (own c (by rw [z]; exact nofun)).1
      rw [e2, ha] at e
      cases e
      exact absurd rfl (nd _ _)
  have nsB : ∀ {c : Addr} {m : Str → Option Value}, s₁.heap.Ns c m → (hidT s₁.heap H).Ns c m := fun {c m} n => by
    obtain ⟨o, es, ep, e, d, r⟩ := n
    exact ⟨o, es, ep, hidT_get e (free_of e fun z n => by rw [d]; exact nofun), d, r⟩
  have inB : K.In (hidT s₁.heap H) := fun c o e => hidT_get (KX c o e) (by
    cases z : H c with
    | none => rfl
    | some u =>
      obtain ⟨e2, e3⟩ := own c (by rw [z]; exact nofun)
      rw [e2, e3] at e
      cases e)
  have md : Mod K mg (hidT s₁.heap H) := by
    obtain ⟨mc, l1, l2⟩ := lim
    exact { kin := inB, glob := nsB g, blt := ⟨mb, nsB b, bb⟩, nolimit := ⟨mc, nsB l1, l2⟩ }
  have en : Env0 P w K mg (hidT s₁.heap H) callerA [] s₁ H := { frames := rfl, mod := md, bs := fun c o e => of_hidT e, bsz := Nat.le_of_eq (hidT_size _ _), funs := trivial, frf := fun c z => (by cases z), hok := ok, bare := .of_eq gn }
  refine codeAny_mono ((F _ inB (nsB g)).run callerA [] s₁ H ⟨[.ref a], []⟩ [.ref a] [.ref a] _ _ hr rfl en (bd s₁ (.ref a)) (.cons rfl .nil) q) fun r s' h => ?_
  match r, h with
  | .error _, h => exact h.elim
  | .ok .next, h => exact h.elim
  | .ok .brk, h => exact h.elim
  | .ok .cont, h => exact h.elim
  | .ok (.ret u), ⟨v, H', os, bare, un, hok', rv, qv⟩ =>
    cases (show v = V.bl true from qv)
    cases (show u = Value.bool true from rv)
    refine ⟨rfl, OldK.of_keep fun c o e => ?_, os, bare⟩
    cases z : H c with
    | none => exact un.keep c o e z (fun z => by cases z) (fun z => by cases z)
    | some y =>
      obtain ⟨ob, xs, rfl⟩ := fz c y z
      have e1 := (ok c _ z).1
      have e2 := (hok' c _ (un.frzs c ob _ z)).1
      rw [e] at e1
      cases e1
      exact e2
/-- the goal that k_head leaves -/
theorem walk_data {l : PySem.W.OpenLaw} {n : Nat} {q : Program} {loose : List Str} {XP : (Str → Option Value) → Heap → Prop} {YP : World → Heap → Prop} {d : DefRec} {KF : Params → PySem.W.Frag} {SP : PySem.W.Frag → Sp}
    (hn : l.most = some n) (hn2 : n ≤ sizeLine) (hdf : d.params.defaults = []) (hr : Room k callerA) (hY : ∀ (w : World) (h : Heap), YP w h → (KF w.params).In h)
    (F : ∀ (w : World) (mg : Str → Option Value) (fa : Addr) (h : Heap), (KF w.params).In h → h.Ns mainGlobals mg → mg d.name = some (.ref fa) →
      ∃ fd : FuncData, (∀ (s : Shared) (u : Value), BindsTo s fd ⟨[u], []⟩ [(x, u)]) ∧ ∀ base : Heap, (KF w.params).In base → base.Ns mainGlobals mg → FnG l.prog w (KF w.params) mg base k fa fd [x] (SP (KF w.params)))
    (hsp : ∀ (K : PySem.W.Frag) (H : Hp) (a : Addr) (ns : List Int), ns.length ≤ n → SqL K H a (ns.map V.int) → SP K [.ref a] H (fun v _ => v = .bl true) fun _ _ _ => False) :
    PySem.W.WalkO q loose XP YP l.row.toRowW d [] (fun f vs => PySem.call f vs) := by
  refine Att.attach_call hn hdf fun w s₀ s₁ mg mb fa o pm cd doc a vs ns G Y ho hd hcd hmg hobj hints hlen hg => ?_
  have KX := hY w _ Y
  obtain ⟨fd, bd, FF⟩ := F w mg fa _ KX G.T.g hmg
  have rv := vals_ints hints
  have hl : (ns.map V.int).length ≤ sizeLine := by rw [List.length_map]; exact Nat.le_trans hlen hn2
  cases hk : (KF w.params).lookup a with
  | some ob =>
    have e := KX a ob hk
    rw [hobj] at e
    cases e
    refine top_core KX G.T.g G.T.b G.T.builtins G.T.nolimit hg hobj hr FF bd (fun _ => none) (fun c u z => nomatch z) (fun c z => absurd rfl z) (fun c u z => nomatch z) (hsp _ _ a ns hlen (.inr ⟨_, vs.toArray, _, hk, rfl, rfl, rfl, ?_, by simpa using rv⟩))
    rw [List.size_toArray, ← rv.length]
    exact hl
  | none =>
    refine top_core KX G.T.g G.T.b G.T.builtins G.T.nolimit hg hobj hr FF bd (fun c => if c = a then some (.frz { cls := .type "list", data := .seq vs.toArray } (.lst (ns.map V.int))) else none) (fun c u z => ?_) (fun c z => ?_) (fun c u z => ?_) (hsp _ _ a ns hlen (.inl (.inr ⟨_, if_pos rfl⟩)))
    · by_cases e : c = a
      · have z' := (if_pos e).symm.trans z
        cases z'
        subst e
        exact ⟨hobj, hl, vs, _, rv, hobj⟩
      · have z' := (if_neg e).symm.trans z
        cases z'
    · by_cases e : c = a
      · exact ⟨e, hk⟩
      · exact absurd (if_neg e) z
    · by_cases e : c = a
      · have z' := (if_pos e).symm.trans z
        cases z'; exact ⟨_, _, rfl⟩
      · have z' := (if_neg e).symm.trans z
        cases z'
end
end Dat

set_option Elab.async false
set_option linter.all false
set_option maxRecDepth 100000
set_option maxHeartbeats 4000000
/-! Dat8: names by themselves, built-ins by their names, own defs packed. -/
namespace Dat
open PySem PySem.Spec PyProof.Rows L2
def idx : List Str → Str → Nat
  | [], _ => 0
  | y :: ys, x => if x = y then 0 else idx ys x + 1
section
variable {X : Cx} {w : Wd} {ρ : List SV} {μ : Mus} {R : SV → Mus → Prop} {e : Expr} {es : List Expr} {pos p : Pos} {x : Str}
theorem de_nm {r : SV} (hr : ρ[idx X.N x]? = some r) (h : R r μ) (hne : r ≠ .no := by exact nofun) (hN : X.N[idx X.N x]? = some x := by rfl)
    (hv : Vis X.env.scope x := by first | exact Or.inl rfl | exact Or.inr (Or.inl rfl) | exact Or.inr (Or.inr rfl)) (hd : (x == ("__debug__" : Str)) = false := by decide)
    (hcd : (x == ("__classdict__" : Str)) = false := by decide) : DE X w (.Name x pos) ρ μ R := de_name (idx X.N x) hr h hne hN hv hd hcd
/-- a built-in class as a value -/
theorem de_tyv {T : String} (hm : X.mg x = none) (hv : bootBuiltins x = some (.type T)) (h : R (.ty T) μ) (hg : Gl X x := by rfl) (hn : x ≠ "__name__" := by decide) (hd : (x == ("__debug__" : Str)) = false := by decide) : DE X w (.Name x pos) ρ μ R := fun σ B H _ I Q k =>
  tE_of (pe_bltn (v := .ty T) hg hm hv rfl hn hd) (k (.ty T) (.ty T) B H μ I (Ex.refl B) rfl h)
theorem de_ty_int (hm : X.mg "int" = none) (h : R (.ty "int") μ) (hg : Gl X "int" := by rfl) : DE X w (.Name "int" pos) ρ μ R := de_tyv hm (by decide +kernel) h hg
theorem de_ty_str (hm : X.mg "str" = none) (h : R (.ty "str") μ) (hg : Gl X "str" := by rfl) : DE X w (.Name "str" pos) ρ μ R := de_tyv hm (by decide +kernel) h hg
theorem de_ty_bool (hm : X.mg "bool" = none) (h : R (.ty "bool") μ) (hg : Gl X "bool" := by rfl) : DE X w (.Name "bool" pos) ρ μ R := de_tyv hm (by decide +kernel) h hg
theorem de_ty_tuple (hm : X.mg "tuple" = none) (h : R (.ty "tuple") μ) (hg : Gl X "tuple" := by rfl) : DE X w (.Name "tuple" pos) ρ μ R := de_tyv hm (by decide +kernel) h hg
theorem de_ty_list (hm : X.mg "list" = none) (h : R (.ty "list") μ) (hg : Gl X "list" := by rfl) : DE X w (.Name "list" pos) ρ μ R := de_tyv hm (by decide +kernel) h hg
theorem de_ty_dict (hm : X.mg "dict" = none) (h : R (.ty "dict") μ) (hg : Gl X "dict" := by rfl) : DE X w (.Name "dict" pos) ρ μ R := de_tyv hm (by decide +kernel) h hg
theorem de_isinstance (ha : DA X w (e :: es) ρ μ fun rs μ1 => CaD X w (.builtin "isinstance") rs μ1 R) (hm : X.mg "isinstance" = none) (hg : Gl X "isinstance" := by rfl)
    (he : starEach (e :: es) X.env = (false, eval e X.env) :: starEach es X.env := by rfl) (hpl : (backTo pos (starEach es X.env)).any (·.1) = false := by rfl) : DE X w (.Call (.Name "isinstance" p) (e :: es) [] pos) ρ μ R :=
  de_callB ha hm (by decide +kernel) hg (by decide) (by decide) he hpl
theorem de_len (ha : DA X w (e :: es) ρ μ fun rs μ1 => CaD X w (.builtin "len") rs μ1 R) (hm : X.mg "len" = none) (hg : Gl X "len" := by rfl)
    (he : starEach (e :: es) X.env = (false, eval e X.env) :: starEach es X.env := by rfl) (hpl : (backTo pos (starEach es X.env)).any (·.1) = false := by rfl) : DE X w (.Call (.Name "len" p) (e :: es) [] pos) ρ μ R :=
  de_callB ha hm (by decide +kernel) hg (by decide) (by decide) he hpl
theorem de_max (ha : DA X w (e :: es) ρ μ fun rs μ1 => CaD X w (.builtin "max") rs μ1 R) (hm : X.mg "max" = none) (hg : Gl X "max" := by rfl)
    (he : starEach (e :: es) X.env = (false, eval e X.env) :: starEach es X.env := by rfl) (hpl : (backTo pos (starEach es X.env)).any (·.1) = false := by rfl) : DE X w (.Call (.Name "max" p) (e :: es) [] pos) ρ μ R :=
  de_callB ha hm (by decide +kernel) hg (by decide) (by decide) he hpl
theorem de_min (ha : DA X w (e :: es) ρ μ fun rs μ1 => CaD X w (.builtin "min") rs μ1 R) (hm : X.mg "min" = none) (hg : Gl X "min" := by rfl)
    (he : starEach (e :: es) X.env = (false, eval e X.env) :: starEach es X.env := by rfl) (hpl : (backTo pos (starEach es X.env)).any (·.1) = false := by rfl) : DE X w (.Call (.Name "min" p) (e :: es) [] pos) ρ μ R :=
  de_callB ha hm (by decide +kernel) hg (by decide) (by decide) he hpl
theorem de_all (ha : DA X w (e :: es) ρ μ fun rs μ1 => CaD X w (.builtin "all") rs μ1 R) (hm : X.mg "all" = none) (hg : Gl X "all" := by rfl)
    (he : starEach (e :: es) X.env = (false, eval e X.env) :: starEach es X.env := by rfl) (hpl : (backTo pos (starEach es X.env)).any (·.1) = false := by rfl) : DE X w (.Call (.Name "all" p) (e :: es) [] pos) ρ μ R :=
  de_callB ha hm (by decide +kernel) hg (by decide) (by decide) he hpl
theorem de_any (ha : DA X w (e :: es) ρ μ fun rs μ1 => CaD X w (.builtin "any") rs μ1 R) (hm : X.mg "any" = none) (hg : Gl X "any" := by rfl)
    (he : starEach (e :: es) X.env = (false, eval e X.env) :: starEach es X.env := by rfl) (hpl : (backTo pos (starEach es X.env)).any (·.1) = false := by rfl) : DE X w (.Call (.Name "any" p) (e :: es) [] pos) ρ μ R :=
  de_callB ha hm (by decide +kernel) hg (by decide) (by decide) he hpl
theorem de_repr (ha : DA X w (e :: es) ρ μ fun rs μ1 => CaD X w (.builtin "repr") rs μ1 R) (hm : X.mg "repr" = none) (hg : Gl X "repr" := by rfl)
    (he : starEach (e :: es) X.env = (false, eval e X.env) :: starEach es X.env := by rfl) (hpl : (backTo pos (starEach es X.env)).any (·.1) = false := by rfl) : DE X w (.Call (.Name "repr" p) (e :: es) [] pos) ρ μ R :=
  de_callB ha hm (by decide +kernel) hg (by decide) (by decide) he hpl
theorem de_divmod (ha : DA X w (e :: es) ρ μ fun rs μ1 => CaD X w (.builtin "divmod") rs μ1 R) (hm : X.mg "divmod" = none) (hg : Gl X "divmod" := by rfl)
    (he : starEach (e :: es) X.env = (false, eval e X.env) :: starEach es X.env := by rfl) (hpl : (backTo pos (starEach es X.env)).any (·.1) = false := by rfl) : DE X w (.Call (.Name "divmod" p) (e :: es) [] pos) ρ μ R :=
  de_callB ha hm (by decide +kernel) hg (by decide) (by decide) he hpl
theorem de_sorted (ha : DA X w (e :: es) ρ μ fun rs μ1 => CaD X w (.builtin "sorted") rs μ1 R) (hm : X.mg "sorted" = none) (hg : Gl X "sorted" := by rfl)
    (he : starEach (e :: es) X.env = (false, eval e X.env) :: starEach es X.env := by rfl) (hpl : (backTo pos (starEach es X.env)).any (·.1) = false := by rfl) : DE X w (.Call (.Name "sorted" p) (e :: es) [] pos) ρ μ R :=
  de_callB ha hm (by decide +kernel) hg (by decide) (by decide) he hpl
theorem de_sum (ha : DA X w (e :: es) ρ μ fun rs μ1 => CaD X w (.builtin "sum") rs μ1 R) (hm : X.mg "sum" = none) (hg : Gl X "sum" := by rfl)
    (he : starEach (e :: es) X.env = (false, eval e X.env) :: starEach es X.env := by rfl) (hpl : (backTo pos (starEach es X.env)).any (·.1) = false := by rfl) : DE X w (.Call (.Name "sum" p) (e :: es) [] pos) ρ μ R :=
  de_callB ha hm (by decide +kernel) hg (by decide) (by decide) he hpl
theorem de_clist (ha : DA X w (e :: es) ρ μ fun rs μ1 => CaD X w (.type "list") rs μ1 R) (hm : X.mg "list" = none) (hg : Gl X "list" := by rfl)
    (he : starEach (e :: es) X.env = (false, eval e X.env) :: starEach es X.env := by rfl) (hpl : (backTo pos (starEach es X.env)).any (·.1) = false := by rfl) : DE X w (.Call (.Name "list" p) (e :: es) [] pos) ρ μ R :=
  de_callT ha hm (by decide +kernel) hg (by decide) (by decide) he hpl
theorem de_ctuple (ha : DA X w (e :: es) ρ μ fun rs μ1 => CaD X w (.type "tuple") rs μ1 R) (hm : X.mg "tuple" = none) (hg : Gl X "tuple" := by rfl)
    (he : starEach (e :: es) X.env = (false, eval e X.env) :: starEach es X.env := by rfl) (hpl : (backTo pos (starEach es X.env)).any (·.1) = false := by rfl) : DE X w (.Call (.Name "tuple" p) (e :: es) [] pos) ρ μ R :=
  de_callT ha hm (by decide +kernel) hg (by decide) (by decide) he hpl
theorem de_cint (ha : DA X w (e :: es) ρ μ fun rs μ1 => CaD X w (.type "int") rs μ1 R) (hm : X.mg "int" = none) (hg : Gl X "int" := by rfl)
    (he : starEach (e :: es) X.env = (false, eval e X.env) :: starEach es X.env := by rfl) (hpl : (backTo pos (starEach es X.env)).any (·.1) = false := by rfl) : DE X w (.Call (.Name "int" p) (e :: es) [] pos) ρ μ R :=
  de_callT ha hm (by decide +kernel) hg (by decide) (by decide) he hpl
theorem de_cstr (ha : DA X w (e :: es) ρ μ fun rs μ1 => CaD X w (.type "str") rs μ1 R) (hm : X.mg "str" = none) (hg : Gl X "str" := by rfl)
    (he : starEach (e :: es) X.env = (false, eval e X.env) :: starEach es X.env := by rfl) (hpl : (backTo pos (starEach es X.env)).any (·.1) = false := by rfl) : DE X w (.Call (.Name "str" p) (e :: es) [] pos) ρ μ R :=
  de_callT ha hm (by decide +kernel) hg (by decide) (by decide) he hpl
theorem de_cdict (ha : DA X w (e :: es) ρ μ fun rs μ1 => CaD X w (.type "dict") rs μ1 R) (hm : X.mg "dict" = none) (hg : Gl X "dict" := by rfl)
    (he : starEach (e :: es) X.env = (false, eval e X.env) :: starEach es X.env := by rfl) (hpl : (backTo pos (starEach es X.env)).any (·.1) = false := by rfl) : DE X w (.Call (.Name "dict" p) (e :: es) [] pos) ρ μ R :=
  de_callT ha hm (by decide +kernel) hg (by decide) (by decide) he hpl
theorem de_cbool (ha : DA X w (e :: es) ρ μ fun rs μ1 => CaD X w (.type "bool") rs μ1 R) (hm : X.mg "bool" = none) (hg : Gl X "bool" := by rfl)
    (he : starEach (e :: es) X.env = (false, eval e X.env) :: starEach es X.env := by rfl) (hpl : (backTo pos (starEach es X.env)).any (·.1) = false := by rfl) : DE X w (.Call (.Name "bool" p) (e :: es) [] pos) ρ μ R :=
  de_callT ha hm (by decide +kernel) hg (by decide) (by decide) he hpl
end

/-! ### own defs -/
theorem undat_len : ∀ {rs : List SV} {ds : List Dt}, undat rs = some ds → rs.length = ds.length
  | [], _, e => by cases e; rfl
  | r :: rs, ds, e => by
    cases r with
    | no => cases e
    | «at» p => cases e
    | ty n => cases e
    | sc K a ns => cases e
    | dat d =>
      unfold undat at e
      cases e2 : undat rs with
      | none => rw [e2] at e; cases e
      | some ds' => rw [e2] at e; cases e; rw [List.length_cons, List.length_cons, undat_len e2]
theorem undat_map : ∀ {rs : List SV} {ds : List Dt}, undat rs = some ds → rs = ds.map SV.dat
  | [], _, e => by cases e; rfl
  | r :: rs, ds, e => by
    cases r with
    | no => cases e
    | «at» p => cases e
    | ty n => cases e
    | sc K a ns => cases e
    | dat d =>
      unfold undat at e
      cases e2 : undat rs with
      | none => rw [e2] at e; cases e
      | some ds' => rw [e2] at e; cases e; rw [List.map_cons, ← undat_map e2]
/-- a pure def: of data, data -/
def PSp (ok : List Dt → Prop) (res : List Dt → Dt → Prop) : Sp := GSp (fun rs _ => ∃ ds, undat rs = some ds ∧ ok ds) (fun rs μ r μ' => ∀ ds, undat rs = some ds → ∃ d, r = .dat d ∧ res ds d ∧ μ' = μ)
/-- one that draws from the pot -/
def QSp (ok : List Dt → Prop) (res : List Dt → Dt → Prop) : Sp := GSp (fun rs μ => ∃ p rs' ds, rs = .at p :: rs' ∧ undat rs' = some ds ∧ μ p = some .pot ∧ ok ds) (fun rs μ r μ' => ∀ p rs' ds, rs = .at p :: rs' → undat rs' = some ds → ∃ d, r = .dat d ∧ res ds d ∧ μ' = μ)
structure Own (P : Program) (w : World) (K : PySem.W.Frag) (mg : Str → Option Value) (base : Heap) (x : Str) (k : Nat) (sp : Sp) : Prop where
  ex : ∃ f fd ps, FnG P w K mg base k f fd ps sp ∧ mg x = some (.ref f) ∧ PySem.W.keepIn K (.ref f) = true ∧ Binds K fd ps []
section
variable {P : Program} {wd : World} {K : PySem.W.Frag} {mg : Str → Option Value} {base : Heap} {x qual : Str} {st : Stmt} {f : Addr} {fd : FuncData} {N ps : List Str} {k : Nat}
theorem fn_pure {ok : List Dt → Prop} {res : List Dt → Dt → Prop} (F : Fun K x qual st f fd) (S : FnScope N ps (defScope st)) (hl : ∀ ds, ok ds → ds.length = ps.length)
    (body : ∀ (cdv : Value) (A : Around) (outer : List Env) (s : Shared) (H : Hp), Room k (bx P wd K mg base N qual st f cdv A outer s H).A → (bx P wd K mg base N qual st f cdv A outer s H).A.guards = some [] → ∀ w ds μ, ok ds →
      DSs (bx P wd K mg base N qual st f cdv A outer s H) w (defBody st) (ds.map SV.dat ++ List.replicate (N.length - (ds.map SV.dat).length) .no) μ { nx := fun _ _ => False, rt := fun r μ' => ∃ d, r = .dat d ∧ res ds d ∧ μ.Sub μ' }) :
    FnG P wd K mg base (k + 1) f fd ps (PSp ok res) := by
  refine fn_ok F S (fun rs μ ⟨ds, e, h⟩ => by rw [undat_len e]; exact hl ds h) fun cdv A outer s H hr hg w rs μ ⟨ds, e, h⟩ => ?_
  have b := body cdv A outer s H hr hg w ds μ h
  rw [← undat_map e] at b
  intro σ B H' S' I D E
  refine b σ B H' S' I D ⟨fun _ _ _ _ _ _ _ _ z => z.elim, fun v r B2 H2 μ2 I2 e2 q ⟨d, h1, h2, h3⟩ => E.rt v r B2 H2 μ2 I2 e2 q ⟨μ, h3, fun ds' e' => ?_⟩, E.bk, E.ct⟩
  rw [e] at e'
  cases e'
  exact ⟨d, h1, h2, rfl⟩
theorem fn_pot {ok : List Dt → Prop} {res : List Dt → Dt → Prop} (F : Fun K x qual st f fd) (S : FnScope N ps (defScope st)) (hl : ∀ ds, ok ds → ds.length + 1 = ps.length)
    (body : ∀ (cdv : Value) (A : Around) (outer : List Env) (s : Shared) (H : Hp), Room k (bx P wd K mg base N qual st f cdv A outer s H).A → (bx P wd K mg base N qual st f cdv A outer s H).A.guards = some [] → ∀ w p ds μ, μ p = some .pot → ok ds →
      DSs (bx P wd K mg base N qual st f cdv A outer s H) w (defBody st) (.at p :: ds.map SV.dat ++ List.replicate (N.length - (.at p :: ds.map SV.dat).length) .no) μ { nx := fun _ _ => False, rt := fun r μ' => ∃ d, r = .dat d ∧ res ds d ∧ μ.Sub μ' }) :
    FnG P wd K mg base (k + 1) f fd ps (QSp ok res) := by
  refine fn_ok F S (fun rs μ ⟨p, rs', ds, e0, e, _, h⟩ => by rw [e0, List.length_cons, undat_len e]; exact hl ds h) fun cdv A outer s H hr hg w rs μ ⟨p, rs', ds, e0, e, hm, h⟩ => ?_
  have b := body cdv A outer s H hr hg w p ds μ hm h
  rw [← undat_map e, ← e0] at b
  intro σ B H' S' I D E
  refine b σ B H' S' I D ⟨fun _ _ _ _ _ _ _ _ z => z.elim, fun v r B2 H2 μ2 I2 e2 q ⟨d, h1, h2, h3⟩ => E.rt v r B2 H2 μ2 I2 e2 q ⟨μ, h3, fun p' rs2 ds' e3 e' => ?_⟩, E.bk, E.ct⟩
  rw [e0] at e3
  cases e3
  rw [e] at e'
  cases e'
  exact ⟨d, h1, h2, rfl⟩
end
section
variable {X : Cx} {w : Wd} {ρ : List SV} {μ : Mus} {R : SV → Mus → Prop} {e : Expr} {es : List Expr} {x : Str} {p pos : Pos} {k j : Nat}
theorem de_own {pre : List SV → Mus → Prop} {post : List SV → Mus → SV → Mus → Prop} (O : Own X.prog X.w X.K X.mg X.base x k (GSp pre post)) (hr : Room j X.A) (hkj : k ≤ j) (hgd : X.A.guards = some [])
    (ha : DA X w (e :: es) ρ μ fun rs μ1 => pre rs μ1 ∧ ∀ r μ2, post rs μ1 r μ2 → R r μ2) (hg : Gl X x := by rfl) (hdb : (x == ("__debug__" : Str)) = false := by decide)
    (he : starEach (e :: es) X.env = (false, eval e X.env) :: starEach es X.env := by rfl) (hpl : (backTo pos (starEach es X.env)).any (·.1) = false := by rfl) : DE X w (.Call (.Name x p) (e :: es) [] pos) ρ μ R := by
  obtain ⟨f, fd, ps, F, hm, hk, hb⟩ := O.ex
  exact de_call F (hr.mono hkj) hgd hm hk hb ha hg hdb he hpl
theorem DA.imp {T T' : List SV → Mus → Prop} (h : DA X w es ρ μ T') (k : ∀ rs μ', T' rs μ' → T rs μ') : DA X w es ρ μ T := fun σ B H S I Q q => h σ B H S I Q fun vs rs B' H' μ' I' e' s' z => q vs rs B' H' μ' I' e' s' (k rs μ' z)
theorem de_pure {ok : List Dt → Prop} {res : List Dt → Dt → Prop} (O : Own X.prog X.w X.K X.mg X.base x k (PSp ok res)) (hr : Room j X.A) (hkj : k ≤ j) (hgd : X.A.guards = some [])
    (ha : DA X w (e :: es) ρ μ fun rs μ1 => ∃ ds, undat rs = some ds ∧ ok ds ∧ ∀ d, res ds d → R (.dat d) μ1) (hg : Gl X x := by rfl) (hdb : (x == ("__debug__" : Str)) = false := by decide)
    (he : starEach (e :: es) X.env = (false, eval e X.env) :: starEach es X.env := by rfl) (hpl : (backTo pos (starEach es X.env)).any (·.1) = false := by rfl) : DE X w (.Call (.Name x p) (e :: es) [] pos) ρ μ R :=
  de_own O hr hkj hgd (ha.imp fun rs μ1 ⟨ds, h1, h2, h3⟩ => ⟨⟨ds, h1, h2⟩, fun r μ2 q => by
    obtain ⟨d, rfl, h4, rfl⟩ := q ds h1
    exact h3 d h4⟩) hg hdb he hpl
theorem de_pot {ok : List Dt → Prop} {res : List Dt → Dt → Prop} (O : Own X.prog X.w X.K X.mg X.base x k (QSp ok res)) (hr : Room j X.A) (hkj : k ≤ j) (hgd : X.A.guards = some [])
    (ha : DA X w (e :: es) ρ μ fun rs μ1 => ∃ q rs' ds, rs = .at q :: rs' ∧ undat rs' = some ds ∧ μ1 q = some .pot ∧ ok ds ∧ ∀ d, res ds d → R (.dat d) μ1) (hg : Gl X x := by rfl) (hdb : (x == ("__debug__" : Str)) = false := by decide)
    (he : starEach (e :: es) X.env = (false, eval e X.env) :: starEach es X.env := by rfl) (hpl : (backTo pos (starEach es X.env)).any (·.1) = false := by rfl) : DE X w (.Call (.Name x p) (e :: es) [] pos) ρ μ R :=
  de_own O hr hkj hgd (ha.imp fun rs μ1 ⟨p, rs', ds, h0, h1, hm, h2, h3⟩ => ⟨⟨p, rs', ds, h0, h1, hm, h2⟩, fun r μ2 q => by
    obtain ⟨d, rfl, h4, rfl⟩ := q p rs' ds h0 h1
    exact h3 d h4⟩) hg hdb he hpl
end
end Dat

set_option Elab.async false
set_option linter.all false
set_option maxRecDepth 100000
set_option maxHeartbeats 4000000
/-! Dat9: data of bounded size may be shown. -/
namespace Dat
open PySem PySem.Spec PyProof.Rows L2
theorem textFrom_le : ∀ (ts : List Str) (k : Nat) (acc : Str), (textFrom k acc ts).length ≤ acc.length + piled ts
  | [], k, acc => by simp [textFrom, piled]
  | t :: r, k, acc => by
    have ih := textFrom_le r (k + 1) (acc ++ (if k > 0 then ", " else "" : String) ++ t)
    have e : (acc ++ (if k > 0 then ", " else "" : String) ++ t).length ≤ acc.length + 2 + t.length := by
      rw [strLen_append, strLen_append]
      have : ((if k > 0 then ", " else "" : String) : Str).length ≤ 2 := by split <;> decide
      omega
    have p : piled (t :: r) = t.length + 2 + piled r := by simp [piled]
    show (textFrom (k + 1) _ r).length ≤ _
    rw [p]; omega
theorem listText_le (ts : List Str) : (listText ts).length ≤ piled ts + 2 := by
  unfold listText
  rw [strLen_append]
  have h := textFrom_le ts 0 "["
  have e1 : (("[" : String) : Str).length = 1 := rfl
  have e2 : (("]" : String) : Str).length = 1 := rfl
  rw [e1] at h; rw [e2]; omega
theorem join_le (ts : List Str) : (Str.join ", " ts).length ≤ piled ts := by
  by_cases h : ts = []
  · subst h; decide
  · have := join_length_add ts h; omega
theorem tupleText_le (ts : List Str) : (tupleText ts).length ≤ piled ts + 3 := by
  unfold tupleText
  rw [strLen_append, strLen_append]
  have h := join_le ts
  have e1 : (("(" : String) : Str).length = 1 := rfl
  have e2 : ((if ts.length == 1 then ",)" else ")" : String) : Str).length ≤ 2 := by split <;> decide
  rw [e1]; omega
theorem dictText_le (ts : List Str) : (dictText ts).length ≤ piled ts + 2 := by
  unfold dictText
  rw [strLen_append, strLen_append]
  have h := join_le ts
  have e1 : (("{" : String) : Str).length = 1 := rfl
  have e2 : (("}" : String) : Str).length = 1 := rfl
  rw [e1, e2]; omega
theorem piled_le {L : Nat} : ∀ (ts : List Str), (∀ t ∈ ts, t.length ≤ L) → piled ts ≤ ts.length * (L + 2)
  | [], _ => by simp [piled]
  | t :: r, h => by
    have ih := piled_le r fun u hu => h u (List.mem_cons_of_mem _ hu)
    have p : piled (t :: r) = t.length + 2 + piled r := by simp [piled]
    have := h t List.mem_cons_self
    rw [p, List.length_cons, Nat.succ_mul]; omega
theorem reprChar_le (q c : Nat) (hq : q = 34 ∨ q = 39) (hc : c < 256) : (Builtin.Str.reprChar q c).length ≤ 4 := by
  have h : ∀ c : Fin 256, (Builtin.Str.reprChar 34 c.val).length ≤ 4 ∧ (Builtin.Str.reprChar 39 c.val).length ≤ 4 := by decide +kernel
  rcases hq with rfl | rfl
  · exact (h ⟨c, hc⟩).1
  · exact (h ⟨c, hc⟩).2
theorem reprText_le (x : Str) (h : ∀ c ∈ x.cps.toList, c < 256) : (reprText x).length ≤ 4 * x.length + 2 := by
  rw [← reprLen_eq, ← Array.foldl_toList]
  have hq : reprQuote x = 34 ∨ reprQuote x = 39 := by unfold reprQuote; split <;> simp
  have : ∀ (l : List Nat) (n : Nat), (∀ c ∈ l, c < 256) → l.foldl (fun n c => n + (Builtin.Str.reprChar (reprQuote x) c).length) n ≤ n + 4 * l.length := by
    intro l
    induction l with
    | nil => intro n _; simp
    | cons c l ih =>
      intro n hl
      have h1 := ih (n + (Builtin.Str.reprChar (reprQuote x) c).length) fun d hd => hl d (List.mem_cons_of_mem _ hd)
      have h2 := reprChar_le (reprQuote x) c hq (hl c List.mem_cons_self)
      rw [List.foldl_cons, List.length_cons]; omega
  have z := this x.cps.toList 2 h
  have e : x.cps.toList.length = x.length := by rw [Array.length_toList]; rfl
  rw [e] at z; omega
/-- of bounded size: texts of S signs, M items, so deep -/
def fine (S M : Nat) : Nat → Dt → Prop
  | _, .non => True
  | _, .bl _ => True
  | _, .int i => i.natAbs < 10 ^ 30
  | _, .str x => x.length ≤ S ∧ ∀ c ∈ x.cps.toList, c < 256
  | n + 1, .lst xs => xs.length ≤ M ∧ ∀ d, d ∈ xs → fine S M n d
  | n + 1, .tup xs => xs.length ≤ M ∧ ∀ d, d ∈ xs → fine S M n d
  | n + 1, .dic ks vs => ks.length ≤ 4 ∧ (∀ d, d ∈ ks → fine S M n d) ∧ ∀ d, d ∈ vs → fine S M n d
  | _, _ => False
def fineL (S M : Nat) : Nat → Nat
  | 0 => 4 * S + 40
  | n + 1 => (M + 8) * (fineL S M n + 4) + 3
theorem fine_int {S M : Nat} {i : Int} : ∀ n, i.natAbs < 10 ^ 30 → fine S M n (.int i)
  | 0, h => h
  | _ + 1, h => h
theorem fine_str {S M : Nat} {x : Str} : ∀ n, (x.length ≤ S ∧ ∀ c ∈ x.cps.toList, c < 256) → fine S M n (.str x)
  | 0, h => h
  | _ + 1, h => h
theorem fine_non {S M : Nat} : ∀ n, fine S M n .non
  | 0 => trivial
  | _ + 1 => trivial
theorem fine_bl {S M : Nat} {b : Bool} : ∀ n, fine S M n (.bl b)
  | 0 => trivial
  | _ + 1 => trivial
theorem fine_up {S M : Nat} : ∀ (n : Nat) (d : Dt), fine S M n d → fine S M (n + 1) d
  | _, .non, _ => trivial
  | _, .bl _, _ => trivial
  | 0, .int _, h => h
  | _ + 1, .int _, h => h
  | 0, .str _, h => h
  | _ + 1, .str _, h => h
  | n + 1, .lst xs, h => ⟨h.1, fun d hd => fine_up n d (h.2 d hd)⟩
  | n + 1, .tup xs, h => ⟨h.1, fun d hd => fine_up n d (h.2 d hd)⟩
  | n + 1, .dic ks vs, h => ⟨h.1, fun d hd => fine_up n d (h.2.1 d hd), fun d hd => fine_up n d (h.2.2 d hd)⟩
  | 0, .lst _, h => h.elim
  | 0, .tup _, h => h.elim
  | 0, .dic _ _, h => h.elim
  | 0, .obj _ _ _, h => h.elim
  | _ + 1, .obj _ _ _, h => h.elim
theorem shownAll_map : ∀ ds : List PyData, PyData.shownAll ds = ds.map PyData.shown
  | [] => by simp [PyData.shownAll]
  | d :: ds => by simp [PyData.shownAll, shownAll_map ds]
theorem fineL_scal (S M n : Nat) : 4 * S + 40 ≤ fineL S M n := by
  induction n with
  | zero => exact Nat.le_refl _
  | succ n ih =>
    show _ ≤ (M + 8) * (fineL S M n + 4) + 3
    have : fineL S M n + 4 ≤ (M + 8) * (fineL S M n + 4) := Nat.le_mul_of_pos_left _ (by omega)
    omega
theorem int_len {i : Int} (h : i.natAbs < 10 ^ 30) : (Str.ofString (toString i)).length ≤ 31 := by
  rw [PySem.ofString_length]
  exact int_text_length_le10 (k := 30) (by decide) h
theorem zip_kv : ∀ (ks vs : List PyData), PyData.shownKv (ks.zip vs) = (ks.zip vs).map fun kv => (kv.1.shown ++ ((": " : String) : Str) ++ kv.2.shown : Str)
  | [], _ => by simp [PyData.shownKv]
  | _ :: _, [] => by simp [PyData.shownKv]
  | k :: ks, v :: vs => by simp [PyData.shownKv, zip_kv ks vs]
theorem fine_len {S M : Nat} : ∀ (n : Nat) (d : Dt), fine S M n d → (toPy d).shown.length ≤ fineL S M n
  | n, .non, _ => by
    have := fineL_scal S M n
    simp only [toPy, PyData.shown]
    have e : (("None" : String) : Str).length = 4 := rfl
    rw [e]; omega
  | n, .bl b, _ => by
    have := fineL_scal S M n
    simp only [toPy, PyData.shown]
    have e : ((if b then "True" else "False" : String) : Str).length ≤ 5 := by cases b <;> decide
    cases b
    · have e : (("False" : String) : Str).length = 5 := rfl
      simp only [Bool.false_eq_true, if_false]
      rw [e]; omega
    · have e : (("True" : String) : Str).length = 4 := rfl
      simp only [if_true]
      rw [e]; omega
  | n, .int i, h => by
    have := fineL_scal S M n
    have h' : i.natAbs < 10 ^ 30 := by cases n <;> exact h
    simp only [toPy, PyData.shown]
    have := int_len h'
    omega
  | n, .str x, h => by
    have := fineL_scal S M n
    have h' : x.length ≤ S ∧ ∀ c ∈ x.cps.toList, c < 256 := by cases n <;> exact h
    simp only [toPy, PyData.shown]
    have := reprText_le x h'.2
    omega
  | n + 1, .lst xs, h => by
    simp only [toPy, PyData.shown, toPyA_map, shownAll_map, List.map_map]
    have q := piled_le (L := fineL S M n) (xs.map (PyData.shown ∘ toPy)) fun t ht => by
      obtain ⟨d, hd, rfl⟩ := List.mem_map.mp ht
      exact fine_len n d (h.2 d hd)
    have z := listText_le (xs.map (PyData.shown ∘ toPy))
    rw [List.length_map] at q
    have m := Nat.mul_le_mul_right (fineL S M n + 2) h.1
    have e : (M + 8) * (fineL S M n + 4) = M * (fineL S M n + 2) + 2 * M + 8 * (fineL S M n + 4) := by rw [Nat.add_mul, Nat.mul_add M, Nat.mul_add M]; omega
    show _ ≤ (M + 8) * (fineL S M n + 4) + 3
    omega
  | n + 1, .tup xs, h => by
    simp only [toPy, PyData.shown, toPyA_map, shownAll_map, List.map_map]
    have q := piled_le (L := fineL S M n) (xs.map (PyData.shown ∘ toPy)) fun t ht => by
      obtain ⟨d, hd, rfl⟩ := List.mem_map.mp ht
      exact fine_len n d (h.2 d hd)
    have z := tupleText_le (xs.map (PyData.shown ∘ toPy))
    rw [List.length_map] at q
    have m := Nat.mul_le_mul_right (fineL S M n + 2) h.1
    have e : (M + 8) * (fineL S M n + 4) = M * (fineL S M n + 2) + 2 * M + 8 * (fineL S M n + 4) := by rw [Nat.add_mul, Nat.mul_add M, Nat.mul_add M]; omega
    show _ ≤ (M + 8) * (fineL S M n + 4) + 3
    omega
  | n + 1, .dic ks vs, h => by
    simp only [toPy, PyData.shown, toPyA_map, zip_kv]
    have q := piled_le (L := 2 * fineL S M n + 2) (((ks.map toPy).zip (vs.map toPy)).map fun kv => kv.1.shown ++ ": " ++ kv.2.shown) fun t ht => by
      obtain ⟨⟨a, b⟩, hd, rfl⟩ := List.mem_map.mp ht
      obtain ⟨h1, h2⟩ := List.of_mem_zip hd
      obtain ⟨x, hx, rfl⟩ := List.mem_map.mp h1
      obtain ⟨y, hy, rfl⟩ := List.mem_map.mp h2
      have q1 := fine_len n x (h.2.1 x hx)
      have q2 := fine_len n y (h.2.2 y hy)
      show ((toPy x).shown ++ ": " ++ (toPy y).shown).length ≤ _
      rw [strLen_append, strLen_append]
      have e : ((": " : String) : Str).length = 2 := rfl
      rw [e]; omega
    have z := dictText_le (((ks.map toPy).zip (vs.map toPy)).map fun kv => kv.1.shown ++ ": " ++ kv.2.shown)
    rw [List.length_map, List.length_zip, List.length_map, List.length_map] at q
    have l4 : min ks.length vs.length ≤ 4 := Nat.le_trans (Nat.min_le_left _ _) h.1
    have m := Nat.mul_le_mul_right (2 * fineL S M n + 2 + 2) l4
    have e : (M + 8) * (fineL S M n + 4) = M * (fineL S M n + 4) + 8 * (fineL S M n + 4) := by rw [Nat.add_mul]
    show _ ≤ (M + 8) * (fineL S M n + 4) + 3
    omega
  | 0, .lst _, h => h.elim
  | 0, .tup _, h => h.elim
  | 0, .dic _ _, h => h.elim
  | 0, .obj _ _ _, h => h.elim
  | _ + 1, .obj _ _ _, h => h.elim
theorem showsAll_of : ∀ (xs : List Dt), (∀ d, d ∈ xs → (toPy d).showable = true) → PyData.showableAll (toPyA xs) = true
  | [], _ => by simp [toPyA, PyData.showableAll]
  | x :: xs, h => by rw [toPyA, PyData.showableAll, h x List.mem_cons_self, showsAll_of xs fun d hd => h d (List.mem_cons_of_mem _ hd)]; rfl
theorem deepAll_of {n : Nat} : ∀ (xs : List Dt), (∀ d, d ∈ xs → (toPy d).depth ≤ n) → PyData.depthAll (toPyA xs) ≤ n
  | [], _ => by simp [toPyA, PyData.depthAll]
  | x :: xs, h => by
    rw [toPyA, PyData.depthAll]
    exact Nat.max_le.mpr ⟨h x List.mem_cons_self, deepAll_of xs fun d hd => h d (List.mem_cons_of_mem _ hd)⟩
theorem plainAll_of : ∀ (xs : List Dt), (∀ d, d ∈ xs → plain d = true) → plainA xs = true
  | [], _ => by simp [plainA]
  | x :: xs, h => by rw [plainA, h x List.mem_cons_self, plainAll_of xs fun d hd => h d (List.mem_cons_of_mem _ hd)]; rfl
theorem showsKv_of : ∀ (ks vs : List Dt), (∀ d, d ∈ ks → (toPy d).showable = true) → (∀ d, d ∈ vs → (toPy d).showable = true) → PyData.showableKv ((toPyA ks).zip (toPyA vs)) = true
  | [], _, _, _ => by simp [toPyA, PyData.showableKv]
  | _ :: _, [], _, _ => by simp [toPyA, PyData.showableKv]
  | k :: ks, v :: vs, h1, h2 => by
    rw [toPyA, toPyA, List.zip_cons_cons, PyData.showableKv, h1 k List.mem_cons_self, h2 v List.mem_cons_self, showsKv_of ks vs (fun d hd => h1 d (List.mem_cons_of_mem _ hd)) fun d hd => h2 d (List.mem_cons_of_mem _ hd)]; rfl
theorem deepKv_of {n : Nat} : ∀ (ks vs : List Dt), (∀ d, d ∈ ks → (toPy d).depth ≤ n) → (∀ d, d ∈ vs → (toPy d).depth ≤ n) → PyData.depthKv ((toPyA ks).zip (toPyA vs)) ≤ n
  | [], _, _, _ => by simp [toPyA, PyData.depthKv]
  | _ :: _, [], _, _ => by simp [toPyA, PyData.depthKv]
  | k :: ks, v :: vs, h1, h2 => by
    rw [toPyA, toPyA, List.zip_cons_cons, PyData.depthKv]
    exact Nat.max_le.mpr ⟨Nat.max_le.mpr ⟨h1 k List.mem_cons_self, h2 v List.mem_cons_self⟩, deepKv_of ks vs (fun d hd => h1 d (List.mem_cons_of_mem _ hd)) fun d hd => h2 d (List.mem_cons_of_mem _ hd)⟩
theorem fine_rest {S M : Nat} : ∀ (n : Nat) (d : Dt), fine S M n d → (toPy d).showable = true ∧ (toPy d).depth ≤ n ∧ plain d = true
  | n, .non, _ => by simp [toPy, PyData.showable, PyData.depth, plain]
  | n, .bl b, _ => by simp [toPy, PyData.showable, PyData.depth, plain]
  | n, .int i, h => by
    have h' : i.natAbs < 10 ^ 30 := by cases n <;> exact h
    refine ⟨?_, by simp [toPy, PyData.depth], by simp [plain]⟩
    simp only [toPy, PyData.showable, decide_eq_true_eq]
    by_cases z : i.natAbs = 0
    · rw [z]; decide
    · exact (Nat.log2_lt z).mpr (Nat.lt_trans h' (by decide))
  | n, .str x, _ => by simp [toPy, PyData.showable, PyData.depth, plain]
  | n + 1, .lst xs, h => by
    simp only [toPy, PyData.showable, PyData.depth, plain]
    exact ⟨showsAll_of xs fun d hd => (fine_rest n d (h.2 d hd)).1, Nat.succ_le_succ (deepAll_of xs fun d hd => (fine_rest n d (h.2 d hd)).2.1), plainAll_of xs fun d hd => (fine_rest n d (h.2 d hd)).2.2⟩
  | n + 1, .tup xs, h => by
    simp only [toPy, PyData.showable, PyData.depth, plain]
    exact ⟨showsAll_of xs fun d hd => (fine_rest n d (h.2 d hd)).1, Nat.succ_le_succ (deepAll_of xs fun d hd => (fine_rest n d (h.2 d hd)).2.1), plainAll_of xs fun d hd => (fine_rest n d (h.2 d hd)).2.2⟩
  | n + 1, .dic ks vs, h => by
    simp only [toPy, PyData.showable, PyData.depth, plain]
    exact ⟨showsKv_of ks vs (fun d hd => (fine_rest n d (h.2.1 d hd)).1) fun d hd => (fine_rest n d (h.2.2 d hd)).1, Nat.succ_le_succ (deepKv_of ks vs (fun d hd => (fine_rest n d (h.2.1 d hd)).2.1) fun d hd => (fine_rest n d (h.2.2 d hd)).2.1), plainAll_of vs fun d hd => (fine_rest n d (h.2.2 d hd)).2.2⟩
  | 0, .lst _, h => h.elim
  | 0, .tup _, h => h.elim
  | 0, .dic _ _, h => h.elim
  | 0, .obj _ _ _, h => h.elim
  | _ + 1, .obj _ _ _, h => h.elim
mutual
def hasDic : Dt → Bool
  | .lst xs => hasDicA xs | .tup xs => hasDicA xs | .dic _ _ => true | _ => false
def hasDicA : List Dt → Bool
  | [] => false
  | d :: ds => hasDic d || hasDicA ds
end
mutual
theorem hasDic_py : ∀ d : Dt, (toPy d).hasDict = hasDic d
  | .non => by simp [toPy, PyData.hasDict, hasDic]
  | .bl _ => by simp [toPy, PyData.hasDict, hasDic]
  | .int _ => by simp [toPy, PyData.hasDict, hasDic]
  | .str _ => by simp [toPy, PyData.hasDict, hasDic]
  | .lst xs => by simp [toPy, PyData.hasDict, hasDic, hasDicA_py xs]
  | .tup xs => by simp [toPy, PyData.hasDict, hasDic, hasDicA_py xs]
  | .dic _ _ => by simp [toPy, PyData.hasDict, hasDic]
  | .obj _ _ _ => by simp [toPy, PyData.hasDict, hasDic]
theorem hasDicA_py : ∀ ds : List Dt, PyData.hasDictAll (toPyA ds) = hasDicA ds
  | [] => by simp [toPyA, PyData.hasDictAll, hasDicA]
  | d :: ds => by simp [toPyA, PyData.hasDictAll, hasDicA, hasDic_py d, hasDicA_py ds]
end
theorem fine_shown {S M n : Nat} {d : Dt} (h : fine S M n d) (hl : fineL S M n ≤ 16777216) (hn : n ≤ 60) (h1 : hasDic d = true → hasLst d = false) : Shown d := by
  obtain ⟨a, b, c⟩ := fine_rest n d h
  exact ⟨c, fun z => h1 (by rw [← hasDic_py]; exact z), a, Nat.le_trans (fine_len n d h) (by rw [sizeLine_eq]; exact hl), Nat.le_trans b hn⟩
end Dat

set_option Elab.async false
set_option linter.all false
set_option maxRecDepth 100000
set_option maxHeartbeats 4000000
/-! Dat10: comprehensions told by their items; texts joined. -/
namespace Dat
open PySem PySem.Spec PyProof.Rows L2
section
variable {X : Cx} {w : Wd} {ρ : List SV} {μ : Mus} {R : SV → Mus → Prop} {elt c : Expr} {scope : Scope} {j : Nat} {items : List Dt}
/-- [f x for x in items] -/
theorem lc_map (f : Dt → Dt) (hl : items.length ≤ 100000) (h : ∀ d, d ∈ items → ∀ w' k, DE (BX X scope k) w' elt (ρ.set j (.dat d)) μ fun r μ' => r = .dat (f d) ∧ μ' = μ) (hR : R (.dat (.lst (items.map f))) μ) : LcAsk X scope elt [] ρ j R items μ := by
  refine ⟨hl, fun n acc μ' => μ' = μ ∧ acc = (items.take n).map f, ⟨rfl, by simp⟩, ?_, ?_⟩
  · rintro n acc d μ2 hd _ ⟨rfl, rfl⟩ w' k
    refine dq_nil ⟨fun _ kc => (h d (List.mem_of_getElem? hd) w' kc).imp fun r μ' ⟨h1, h2⟩ => ⟨f d, h1, h2, ?_⟩, nofun⟩
    rw [List.take_add_one, hd, List.map_append]
    rfl
  · rintro acc μ' ⟨rfl, rfl⟩ _
    rw [List.take_length]
    exact hR
/-- [f x for x in items if p x] -/
theorem lc_filter (f : Dt → Dt) (p : Dt → Bool) (hl : items.length ≤ 100000) (hc : ∀ d, d ∈ items → ∀ w' k, DT (BX X scope k) w' c (ρ.set j (.dat d)) μ fun b μ' => b = p d ∧ μ' = μ)
    (h : ∀ d, d ∈ items → p d = true → ∀ w' k, DE (BX X scope k) w' elt (ρ.set j (.dat d)) μ fun r μ' => r = .dat (f d) ∧ μ' = μ) (hR : R (.dat (.lst ((items.filter p).map f))) μ) : LcAsk X scope elt [c] ρ j R items μ := by
  refine ⟨hl, fun n acc μ' => μ' = μ ∧ acc = ((items.take n).filter p).map f, ⟨rfl, by simp⟩, ?_, ?_⟩
  · rintro n acc d μ2 hd _ ⟨rfl, rfl⟩ w' k
    have hm := List.mem_of_getElem? hd
    have tk : items.take (n + 1) = items.take n ++ [d] := by rw [List.take_add_one, hd]; rfl
    refine dq_one ((hc d hm w' k).imp fun b μ3 ⟨hb, e⟩ => ?_)
    subst e
    refine ⟨fun t kc => (h d hm (by rw [← hb]; exact t) w' kc).imp fun r μ' ⟨h1, h2⟩ => ⟨f d, h1, h2, ?_⟩, fun t => ⟨rfl, ?_⟩⟩
    · rw [tk, List.filter_append, List.map_append, List.filter_cons, ← hb, if_pos t]; rfl
    · rw [tk, List.filter_append, List.filter_cons, ← hb, if_neg (by rw [t]; decide)]; simp
  · rintro acc μ' ⟨rfl, rfl⟩ _
    rw [List.take_length]
    exact hR
/-- elements of which T holds, each item giving one -/
theorem lc_some (T : Dt → Prop) (hl : items.length ≤ 100000) (h : ∀ d, d ∈ items → ∀ w' k, DE (BX X scope k) w' elt (ρ.set j (.dat d)) μ fun r μ' => ∃ d', r = .dat d' ∧ T d' ∧ μ' = μ)
    (hR : ∀ acc, acc.length = items.length → (∀ d, d ∈ acc → T d) → R (.dat (.lst acc)) μ) : LcAsk X scope elt [] ρ j R items μ := by
  refine ⟨hl, fun n acc μ' => μ' = μ ∧ acc.length = (items.take n).length ∧ ∀ d, d ∈ acc → T d, ⟨rfl, by simp, by simp⟩, ?_, ?_⟩
  · rintro n acc d μ2 hd _ ⟨rfl, hlen, hT⟩ w' k
    refine dq_nil ⟨fun _ kc => (h d (List.mem_of_getElem? hd) w' kc).imp fun r μ' ⟨d', h1, h2, h3⟩ => ⟨d', h1, h3, ?_, ?_⟩, nofun⟩
    · rw [List.take_add_one, hd, List.length_append, List.length_append, hlen]; rfl
    · intro y hy
      rcases List.mem_append.mp hy with e | e
      · exact hT y e
      · rw [List.mem_singleton.mp e]; exact h2
  · rintro acc μ' ⟨rfl, hlen, hT⟩ _
    rw [List.take_length] at hlen
    exact hR acc hlen hT
theorem signs_mem {z : Str} {d : Dt} (h : d ∈ signs z) : ∃ c, c ∈ z.cps.toList ∧ d = .str ⟨#[c]⟩ := by
  obtain ⟨c, h1, h2⟩ := List.mem_map.mp h
  exact ⟨c, h1, h2.symm⟩
theorem signs_len (z : Str) : (signs z).length = z.length := by
  unfold signs
  rw [List.length_map, Array.length_toList]; rfl
theorem lt_sign (a b : Nat) : decide ([a] < [b]) = decide (a < b) := by
  rw [Bool.eq_iff_iff, decide_eq_true_eq, decide_eq_true_eq]
  constructor
  · intro h
    cases h with
    | rel h => exact h
    | cons h => cases h
  · intro h
    exact .rel h
end
section
variable {X : Cx} {w : Wd} {ρ : List SV} {μ : Mus} {R : SV → Mus → Prop} {o e : Expr} {apos pos : Pos}
theorem de_join (ho : DE X w o ρ μ fun r μ1 => ∃ a, r = .dat (.str a) ∧ DE X w e ρ μ1 fun r2 μ2 => ∃ ys : List Str, LsQ r2 μ2 (ys.map Dt.str) ∧ (ys.map (·.length)).sum + ys.length * a.length ≤ 16777216 ∧ R (.dat (.str (Txt.join a ys))) μ2)
    (hs : starEach [e] X.env = [(false, eval e X.env)] := by rfl) (hbase : attributeBase o "join" X.env (eval o X.env) = eval o X.env := by rfl) (hline : (apos.endLine == pos.line) = true := by rfl) : DE X w (.Call (.Attribute o "join" apos) [e] [] pos) ρ μ R := fun σ B H S I Q k =>
  tE_of (pe_join pe_self pe_self hs hbase hline) (ho σ B H S I _ fun v r B1 H1 μ1 I1 e1 q1 h1 => by
    obtain ⟨a, rfl, h1⟩ := h1
    cases q1
    refine ⟨⟨a, rfl⟩, h1 σ B1 H1 (S.mono e1) I1 _ fun v2 r2 B2 H2 μ2 I2 e2 q2 h2 => ?_⟩
    obtain ⟨ys, hl, hz, h2⟩ := h2
    obtain ⟨p, xs, rfl, hp, hx⟩ := ls_get I2 q2 hl
    have ev := DqA.strs hx
    subst ev
    exact ⟨a, p, ys, rfl, rfl, .inl (.inl (.inl hp)), hz, k _ (.dat (.str (Txt.join a ys))) B2 H2 μ2 I2 (e1.trans e2) (Dq.str _) h2⟩)
theorem de_upper (ho : DE X w o ρ μ fun r μ1 => ∃ a, r = .dat (.str a) ∧ a.length ≤ 5592405 ∧ R (.dat (.str (Txt.upper a))) μ1)
    (hbase : attributeBase o "upper" X.env (eval o X.env) = eval o X.env := by rfl) (hline : (apos.endLine == pos.line) = true := by rfl) : DE X w (.Call (.Attribute o "upper" apos) [] [] pos) ρ μ R := fun σ B H S I Q k =>
  tE_of (pe_upper pe_self hbase hline) (ho σ B H S I _ fun v r B1 H1 μ1 I1 e1 q1 h1 => by
    obtain ⟨a, rfl, hl, h1⟩ := h1
    cases q1
    exact ⟨⟨a, rfl⟩, a, rfl, rfl, hl, k _ (.dat (.str (Txt.upper a))) B1 H1 μ1 I1 e1 (Dq.str _) h1⟩)
theorem op_mulS {x : Str} {n : Int} (hok : MulOk x n) (h : R (.dat (.str (Txt.mul x n))) μ) : OpD X w (binaryOp .Mult) (.dat (.str x)) (.dat (.int n)) μ R := fun B H v u I q1 q2 Q k pins s σ a b J ra rb => by
  cases q1; cases q2
  obtain ⟨t, rfl⟩ := ra
  obtain ⟨t', rfl⟩ := rb
  exact SB.mul hok fun t2 k2 => ⟨.str _, H, J.tok _, ⟨_, rfl⟩, k _ (.dat (.str (Txt.mul x n))) B H μ I (Ex.refl B) (Dq.str _) h⟩
/-- a dict of one text key -/
theorem de_dict0 (h : R (.dat (.dic [] [])) μ) : DE X w (.Dict [] [] pos) ρ μ R := fun σ B H S I Q k =>
  tE_of pe_dnewK fun p hp => k (.ref p) (.dat (.dic [] [])) _ _ μ (I.new hp _) (Ex.new (I.free hp).1) (Dq.dic (kvs := []) upd_same .nil) h
theorem de_dict1 {ke ve : Expr} (h : ∀ w', DE X w' ke ρ μ fun r μ1 => ∃ x, r = .dat (.str x) ∧ DE X w' ve ρ μ1 fun r2 μ2 => ∃ d, r2 = .dat d ∧ R (.dat (.dic [.str x] [d])) μ2) : DE X w (.Dict [some ke] [ve] pos) ρ μ R := fun σ B H S I Q k =>
  tE_of (pe_disp (pps_cons pe_self pe_self pps_nil) rfl rfl (by simp) (by simp)) fun p hp => by
    -- the new dict is made ahead of what it holds: a world begins here
    obtain ⟨bp, mp, wp⟩ := I.free hp
    have I0 : SInv w B (upd H p (.dK [])) μ := I.own bp wp mp _
    have J0 : SInv ⟨B, upd H p (.dK []), fun q => μ q ≠ none⟩ B (upd H p (.dK [])) μ := SInv.start I0.bh fun q o z => ⟨(I0.mus q o z).1, (I0.mus q o z).2.1⟩
    refine h _ σ B _ S J0 _ fun v r B1 H1 μ1 I1 e1 q1 h1 => ?_
    obtain ⟨x, rfl, h1⟩ := h1
    cases q1
    refine h1 σ B1 H1 (S.mono e1) I1 _ fun v2 r2 B2 H2 μ2 I2 e2 q2 h2 => ?_
    obtain ⟨d, rfl, h2⟩ := h2
    have hH : H2 p = some (.dK []) := I2.keep p _ (fun z => z mp) upd_same
    have hB : B2 p = none := I2.out p (show upd H p (.dK []) p ≠ none by rw [upd_same]; exact nofun) bp
    have hM : μ2 p = none := by
      cases z : μ2 p with
      | none => rfl
      | some o =>
        rcases (I2.mus p o z).2.2 with c | c
        · exact absurd mp c
        · have c' : upd H p (.dK []) p = none := c
          rw [upd_same] at c'; cases c'
    refine ⟨hH, [(Sum.inr x, v2)], rfl, by simp, ?_⟩
    have I3 := ((I0.back I2).own hB wp hM (.dK (mergeK [] [(Sum.inr x, v2)]))).told hB wp hM upd_same
    exact k (.ref p) (.dat (.dic [.str x] [d])) _ _ μ2 I3 ((e1.trans e2).trans (Ex.new hB)) (Dq.dic (kvs := [(Sum.inr x, v2)]) upd_same (DqA.one ((show Dq B2 v2 d from q2).mono (Ex.new hB)))) h2
end
end Dat

set_option Elab.async false
set_option linter.all false
set_option maxRecDepth 100000
set_option maxHeartbeats 4000000
namespace K11
open PySem PySem.Spec PyProof.Rows L2 Dat
def top (i : Nat) : Stmt := PySem.Challenge.pw_onefacers_k11_names_lots_whos.main.body.getD i (.Pass ⟨0, 0, 0, 0⟩)
def ok1 (p : Dt → Prop) : List Dt → Prop := fun ds => ∃ d, ds = [d] ∧ p d
def re1 (f : Dt → Dt) : List Dt → Dt → Prop := fun ds r => ∃ d, ds = [d] ∧ r = f d
def Fi (d : Dt) : Prop := ∃ n, fine 64 30 n d
theorem Fi.notObj {d : Dt} (h : Fi d) : isObj' d = false := by
  obtain ⟨n, h⟩ := h
  cases d with
  | obj _ _ _ => cases n <;> exact h.elim
  | _ => rfl
theorem Fi.str {x : Str} (h : Fi (.str x)) : x.length ≤ 64 ∧ ∀ c ∈ x.cps.toList, c < 256 := by
  obtain ⟨n, h⟩ := h
  cases n <;> exact h
theorem Fi.tup {xs : List Dt} (h : Fi (.tup xs)) : xs.length ≤ 30 ∧ ∀ d, d ∈ xs → Fi d := by
  obtain ⟨n, h⟩ := h
  cases n with
  | zero => exact h.elim
  | succ n => exact ⟨h.1, fun d hd => ⟨n, h.2 d hd⟩⟩
section
variable {X : Cx} {w : Wd} {ρ : List SV} {μ : Mus} {R : SV → Mus → Prop} {e e2 e3 : Expr} {es : List Expr} {x : Str} {p pos : Pos} {j k : Nat}
theorem de_p1 {q : Dt → Prop} {f : Dt → Dt} (O : Own X.prog X.w X.K X.mg X.base x k (PSp (ok1 q) (re1 f))) (hr : Room j X.A) (hkj : k ≤ j) (hgd : X.A.guards = some [])
    (ha : DE X w e ρ μ fun r μ1 => ∃ d, r = .dat d ∧ q d ∧ R (.dat (f d)) μ1) (hg : Gl X x := by rfl) (hdb : (x == ("__debug__" : Str)) = false := by decide)
    (he : starEach [e] X.env = (false, eval e X.env) :: starEach [] X.env := by rfl) (hpl : (backTo pos (starEach [] X.env)).any (·.1) = false := by rfl) : DE X w (.Call (.Name x p) [e] [] pos) ρ μ R :=
  de_pure O hr hkj hgd (da_cons (hs := he) (ha.imp fun r μ1 ⟨d, e1, h1, h2⟩ => da_nil (by subst e1; exact ⟨_, rfl, ⟨_, rfl, h1⟩, fun d' ⟨_, e3, e4⟩ => by cases e3; subst e4; exact h2⟩))) hg hdb he hpl
end
section
variable (P : Program) (w : World) (K : PySem.W.Frag) (mg : Str → Option Value) (base : Heap)
structure Txt : Prop where
  isi : mg "isinstance" = none
  int : mg "int" = none
  bool : mg "bool" = none
  str : mg "str" = none
  tup : mg "tuple" = none
  list : mg "list" = none
  len : mg "len" = none
  all : mg "all" = none
  max : mg "max" = none
  min : mg "min" = none
  repr : mg "repr" = none
  range : mg "range" = none
  divmod : mg "divmod" = none
  letters : ∃ t, mg "MOST_LETTERS" = some (.int 8 t)
  hands : ∃ t, mg "MOST_HANDS" = some (.int 6 t)
  last : ∃ t, mg "LAST_PLACE" = some (.int 11 t)
  face : ∃ t, mg "FACE" = some (.int 0 t)
  kinds : ∃ t, mg "MOST_KINDS" = some (.int 12 t)
end
/-! what the looks say -/
def wholeD (d : Dt) : Bool := isInt d && !isBl d
def low (c : Nat) : Bool := decide (97 ≤ c) && decide (c ≤ 122)
def nameD : Dt → Bool
  | .str x => decide (1 ≤ x.length) && decide (x.length ≤ 8) && x.cps.toList.all low
  | _ => false
def lotsGo : Int → List Dt → Bool
  | _, [] => true
  | f, .int n :: ds => decide (0 ≤ n) && decide (n ≤ f) && lotsGo (max f (n + 1)) ds
  | _, _ :: _ => false
def lotsD : Dt → Bool
  | .tup xs => decide (xs.length ≤ 6) && lotsGo 0 xs
  | _ => false
def inD (lo hi : Int) : Dt → Bool
  | .int n => decide (lo ≤ n) && decide (n ≤ hi)
  | _ => false
def whoD : Dt → Bool
  | .tup (d :: ds) => nameD d && ds.all (inD 0 11)
  | _ => false
def spWhole : Sp := PSp (ok1 Fi) (re1 fun d => .bl (wholeD d))
def spName : Sp := PSp (ok1 Fi) (re1 fun d => .bl (nameD d))
def spLots : Sp := PSp (ok1 Fi) (re1 fun d => .bl (lotsD d))
def spPlace : Sp := PSp (ok1 Fi) (re1 fun d => .bl (inD 0 11 d))
def spWho : Sp := PSp (ok1 Fi) (re1 fun d => .bl (whoD d))
def signD : Dt → Bool
  | .str z => z.cps.toList.all low
  | _ => false
theorem signs_all (x : Str) : ((Dat.signs x).map signD).all id = x.cps.toList.all low := by
  unfold Dat.signs
  rw [List.map_map, List.all_map]
  congr 1
  funext c
  simp [signD]
theorem atI_nat (ds : List Dt) (n : Nat) (d : Dt) (h : ds[n]? = some d) : atI ds (n : Int) = some d := by
  have hn : n < ds.length := (List.getElem?_eq_some_iff.mp h).1
  unfold atI ixN
  rw [if_pos (by omega), if_pos (by omega)]
  exact h
theorem atI_head (d : Dt) (ds : List Dt) : atI (d :: ds) 0 = some d := atI_nat _ 0 _ rfl
theorem atI_last (ds : List Dt) (n : Int) (d : Dt) (h0 : 0 ≤ n) (h : ds[n.toNat]? = some d) : atI ds n = some d := by
  have := atI_nat ds n.toNat d h
  rwa [Int.toNat_of_nonneg h0] at this
theorem cut_tail (d : Dt) (ds : List Dt) : Dat.cutD (d :: ds) (some 1) none = ds := by
  have e : min (Int.toNat 1) (ds.length + 1) = 1 := by
    show min 1 (ds.length + 1) = 1
    omega
  simp [Dat.cutD, HT.sIx, e]
theorem six_nat (N d n : Nat) (h : n ≤ N) : HT.sIx N d (some (n : Int)) = n := by
  show (if (n : Int) < 0 then ((n : Int) + N).toNat else min (n : Int).toNat N) = n
  rw [if_neg (by omega), Int.toNat_natCast, Nat.min_eq_left h]
theorem cut_to (ds : List Dt) (n : Nat) (h : n ≤ ds.length) : Dat.cutD ds none (some (n : Int)) = ds.take n := by
  unfold Dat.cutD
  rw [six_nat _ _ _ h]
  rfl
theorem cut_from (ds : List Dt) (n : Nat) (h : n ≤ ds.length) : Dat.cutD ds (some (n : Int)) none = ds.drop n := by
  unfold Dat.cutD
  rw [six_nat _ _ _ h]
  exact List.take_of_length_le (by rw [List.length_drop]; exact Nat.le_refl _)
end K11

set_option Elab.async false
set_option linter.all false
set_option maxRecDepth 100000
set_option maxHeartbeats 4000000
namespace K11
open PySem PySem.Spec PyProof.Rows L2 Dat
local macro_rules
  | `(tactic| walk_at "down") => `(tactic| fail "none")
local macro_rules
  | `(tactic| walk_at "dset") => `(tactic| fail "none")
local macro_rules
  | `(tactic| walk_at "dhook") => `(tactic| fail "none")
local macro_rules
  | `(tactic| walk_at "dlst") => `(tactic| fail "none")
local macro_rules
  | `(tactic| walk_at "dca") => `(tactic| fail "none")
local macro_rules
  | `(tactic| walk_at "dstep") => `(tactic| first
    | ((with_reducible show DE _ _ _ _ _ _); first | ((with_reducible show DE _ _ (Expr.Name _ _) _ _ _); first | ((with_reducible show DE _ _ (Expr.Name "int" _) _ _ _); refine de_ty_int (by assumption) ?_) | ((with_reducible show DE _ _ (Expr.Name "str" _) _ _ _); refine de_ty_str (by assumption) ?_) | ((with_reducible show DE _ _ (Expr.Name "bool" _) _ _ _); refine de_ty_bool (by assumption) ?_) | ((with_reducible show DE _ _ (Expr.Name "tuple" _) _ _ _); refine de_ty_tuple (by assumption) ?_) | ((with_reducible show DE _ _ (Expr.Name "list" _) _ _ _); refine de_ty_list (by assumption) ?_) | ((with_reducible show DE _ _ (Expr.Name "dict" _) _ _ _); refine de_ty_dict (by assumption) ?_) | refine de_nm rfl ?_ | refine de_globI (by assumption) ?_) | ((with_reducible show DE _ _ (Expr.Constant _ _ _) _ _ _); first | refine de_int ?_ | refine de_str ?_ | refine de_bl ?_ | refine de_non ?_) | ((with_reducible show DE _ _ (Expr.Call (Expr.Name _ _) _ _ _) _ _ _); first | ((with_reducible show DE _ _ (Expr.Call (Expr.Name "isinstance" _) _ _ _) _ _ _); refine de_isinstance ?_ (by assumption)) | ((with_reducible show DE _ _ (Expr.Call (Expr.Name "len" _) _ _ _) _ _ _); refine de_len ?_ (by assumption)) | ((with_reducible show DE _ _ (Expr.Call (Expr.Name "max" _) _ _ _) _ _ _); refine de_max ?_ (by assumption)) | ((with_reducible show DE _ _ (Expr.Call (Expr.Name "min" _) _ _ _) _ _ _); refine de_min ?_ (by assumption)) | ((with_reducible show DE _ _ (Expr.Call (Expr.Name "all" _) _ _ _) _ _ _); refine de_all ?_ (by assumption)) | ((with_reducible show DE _ _ (Expr.Call (Expr.Name "repr" _) _ _ _) _ _ _); refine de_repr ?_ (by assumption)) | ((with_reducible show DE _ _ (Expr.Call (Expr.Name "divmod" _) _ _ _) _ _ _); refine de_divmod ?_ (by assumption)) | ((with_reducible show DE _ _ (Expr.Call (Expr.Name "list" _) _ _ _) _ _ _); refine de_clist ?_ (by assumption)) | ((with_reducible show DE _ _ (Expr.Call (Expr.Name "tuple" _) _ _ _) _ _ _); refine de_ctuple ?_ (by assumption)) | walk_at "down") | ((with_reducible show DE _ _ (Expr.BinOp _ _ _ _) _ _ _); refine de_op ?_) | ((with_reducible show DE _ _ (Expr.Compare _ [_] _ _) _ _ _); refine de_cmp ?_) | ((with_reducible show DE _ _ (Expr.Compare _ [_, _] _ _) _ _ _); refine de_chain ?_) | ((with_reducible show DE _ _ (Expr.Subscript _ (Expr.Slice _ _ _ _) _) _ _ _); refine de_slice ?_) | ((with_reducible show DE _ _ (Expr.Subscript _ _ _) _ _ _); refine de_ix ?_) | ((with_reducible show DE _ _ (Expr.BoolOp _ [_] _) _ _ _); refine de_one ?_) | ((with_reducible show DE _ _ (Expr.BoolOp BoolOp.And _ _) _ _ _); refine de_and ?_) | ((with_reducible show DE _ _ (Expr.BoolOp BoolOp.Or _ _) _ _ _); refine de_or ?_) | ((with_reducible show DE _ _ (Expr.UnaryOp UnaryOp.Not _ _) _ _ _); refine de_not ?_) | ((with_reducible show DE _ _ (Expr.UnaryOp _ _ _) _ _ _); refine de_un ?_) | ((with_reducible show DE _ _ (Expr.IfExp _ _ _ _) _ _ _); refine de_ifx ?_) | ((with_reducible show DE _ _ (Expr.Tuple _ _ _) _ _ _); refine de_tup ?_) | ((with_reducible show DE _ _ (Expr.List _ _ _) _ _ _); walk_at "dlst") | walk_at "dhook")
    | ((with_reducible show DA _ _ _ _ _ _); first | ((with_reducible show DA _ _ [] _ _ _); refine da_nil ?_) | ((with_reducible show DA _ _ (_ :: _) _ _ _); refine da_cons ?_))
    | ((with_reducible show BoolR _ _); refine ⟨_, rfl, ?_⟩)
    | ((with_reducible show (_ = true → _) ∧ (_ = false → _)); (refine ⟨fun h => ?_, fun h => ?_⟩ <;> try (exact Bool.noConfusion h)))
    | ((with_reducible show OpD _ _ _ _ _ _ _); first | ((with_reducible show OpD _ _ (binaryOp Operator.Add) _ _ _ _); first | refine op_addI ?_ | refine op_addT ?_) | ((with_reducible show OpD _ _ (binaryOp Operator.Sub) _ _ _ _); refine op_subI ?_) | ((with_reducible show OpD _ _ (binaryOp Operator.Mod) _ _ _ _); refine op_modI (by decide) ?_) | ((with_reducible show OpD _ _ (binaryOp Operator.Mult) _ _ _ _); refine op_mulI ?_) | ((with_reducible show OpD _ _ (compareOp CmpOp.Lt) _ _ _ _); refine op_ltI ?_) | ((with_reducible show OpD _ _ (compareOp CmpOp.LtE) _ _ _ _); first | refine op_leI ?_ | refine op_leS ?_) | ((with_reducible show OpD _ _ (compareOp CmpOp.Gt) _ _ _ _); refine op_gtI ?_) | ((with_reducible show OpD _ _ (compareOp CmpOp.GtE) _ _ _ _); refine op_geI ?_) | ((with_reducible show OpD _ _ (compareOp CmpOp.Eq) _ _ _ _); first | refine op_eqI ?_ | refine op_eqS ?_) | ((with_reducible show OpD _ _ (compareOp CmpOp.NotEq) _ _ _ _); first | refine op_neI ?_ | refine op_neS ?_))
    | ((with_reducible show CaD _ _ _ _ _ _); first | ((with_reducible show CaD _ _ (Value.builtin "isinstance") [_, SV.ty "int"] _ _); refine ca_isi (by assumption) (kit_int _ (by assumption)) ?_) | ((with_reducible show CaD _ _ (Value.builtin "isinstance") [_, SV.ty "bool"] _ _); refine ca_isi (by assumption) (kit_bool _ (by assumption)) ?_) | ((with_reducible show CaD _ _ (Value.builtin "isinstance") [_, SV.ty "str"] _ _); refine ca_isi (by assumption) (kit_str _ (by assumption)) ?_) | ((with_reducible show CaD _ _ (Value.builtin "isinstance") [_, SV.ty "tuple"] _ _); refine ca_isi (by assumption) (kit_tuple _ (by assumption)) ?_) | ((with_reducible show CaD _ _ (Value.builtin "isinstance") [_, SV.ty "list"] _ _); refine ca_isi (by assumption) (kit_list _ (by assumption)) ?_) | ((with_reducible show CaD _ _ (Value.builtin "isinstance") [_, SV.ty "dict"] _ _); refine ca_isi (by assumption) (kit_dict _ (by assumption)) ?_) | ((with_reducible show CaD _ _ (Value.builtin "max") _ _ _); refine ca_max2 rfl ?_) | ((with_reducible show CaD _ _ (Value.builtin "min") _ _ _); refine ca_min2 rfl ?_) | ((with_reducible show CaD _ _ (Value.builtin "len") _ _ _); first | refine ca_lenT ?_ | refine ca_lenS (by assumption) ?_) | walk_at "dca")
    | ((with_reducible show DT _ _ _ _ _ _); first | ((with_reducible show DT _ _ (Expr.BoolOp _ _ _) _ _ _); refine dt_w ?_) | ((with_reducible show DT _ _ (Expr.UnaryOp UnaryOp.Not _ _) _ _ _); refine dt_not ?_) | ((with_reducible show DT _ _ (Expr.Compare _ [_] _ _) _ _ _); refine dt_cmp ?_) | ((with_reducible show DT _ _ (Expr.Compare _ [_, _] _ _) _ _ _); refine dt_chain ?_) | refine dt_val ?_)
    | ((with_reducible show DW _ _ _ _ _ _); first | ((with_reducible show DW _ _ (Expr.BoolOp BoolOp.And [_] _) _ _ _); refine dw_and1 ?_) | ((with_reducible show DW _ _ (Expr.BoolOp BoolOp.Or [_] _) _ _ _); refine dw_or1 ?_) | ((with_reducible show DW _ _ (Expr.BoolOp BoolOp.And _ _) _ _ _); refine dw_and ?_) | ((with_reducible show DW _ _ (Expr.BoolOp BoolOp.Or _ _) _ _ _); refine dw_or ?_))
    | ((with_reducible show DSs _ _ _ _ _ _); first | ((with_reducible show DSs _ _ [] _ _ _); refine dss_nil ?_) | ((with_reducible show DSs _ _ [_] _ _ _); refine dss_one ?_) | ((with_reducible show DSs _ _ (_ :: _) _ _ _); refine dss_cons ?_))
    | ((with_reducible show DS _ _ _ _ _ _); first | ((with_reducible show DS _ _ (Stmt.Return (some _) _) _ _ _); refine ds_ret ?_) | ((with_reducible show DS _ _ (Stmt.If _ _ _ _) _ _ _); refine ds_if ?_) | ((with_reducible show DS _ _ (Stmt.Expr _ _) _ _ _); refine ds_expr ?_) | ((with_reducible show DS _ _ (Stmt.Assign [Expr.Name _ _] _ _) _ _ _); walk_at "dset"))
    | ((with_reducible show DP _ _ none _ _ _); refine dp_none ?_)
    | ((with_reducible show DP _ _ (some _) _ _ _); refine dp_some ?_)
    | ((with_reducible show ∃ d, SV.dat _ = SV.dat d ∧ Fi d ∧ _); refine ⟨_, rfl, by assumption, ?_⟩)
    | ((with_reducible show UnD _ _ (unaryOp UnaryOp.USub) _ _ _); refine un_negI ?_)
    | ((with_reducible show Po.nx _ _ _); dsimp only)
    | ((with_reducible show Po.rt _ _ _); dsimp only))
local macro_rules
  | `(tactic| walk_at "drun") => `(tactic| repeat' (walk_at "dstep"))

section
variable {P : Program} {w : World} {K : PySem.W.Frag} {mg : Str → Option Value} {base : Heap}
/-! ### is_whole -/
abbrev sWhole : Stmt := top 6
theorem scWhole : FnScope ["thing"] ["thing"] (defScope sWhole) := ⟨rfl, rfl, rfl, by decide +kernel, rfl, by decide +kernel, by decide +kernel⟩
theorem ok_whole {f : Addr} {fd : FuncData} (F : Fun K "is_whole" "is_whole" sWhole f fd) (T : Txt mg) : FnG P w K mg base 1 f fd ["thing"] spWhole := by
  refine fn_pure F scWhole (fun ds ⟨d, e, _⟩ => by rw [e]; rfl) fun cdv A outer s H hr hg w' ds μ ⟨d, e, hd⟩ => ?_
  subst e
  have ho := hd.notObj
  obtain ⟨t1, t2, t3, t4, t5, t6, t7, t8, t9, t10, t11, t12, t13, t14, t15, t16, t17, t18⟩ := T
  refine dss_one (ds_ret (de_and ?_))
  walk_at "drun"
  · refine ⟨_, rfl, ⟨d, rfl, ?_⟩, Mus.Sub.refl _⟩
    simp [wholeD, *]
  · refine ⟨_, rfl, ⟨d, rfl, ?_⟩, Mus.Sub.refl _⟩
    simp [wholeD, *]
/-! ### is_name -/
abbrev sName : Stmt := top 7
theorem scName : FnScope ["thing", "sign"] ["thing"] (defScope sName) := ⟨rfl, rfl, rfl, by decide +kernel, rfl, by decide +kernel, by decide +kernel⟩
theorem ok_name {f : Addr} {fd : FuncData} (F : Fun K "is_name" "is_name" sName f fd) (T : Txt mg) : FnG P w K mg base 1 f fd ["thing"] spName := by
  refine fn_pure F scName (fun ds ⟨d, e, _⟩ => by rw [e]; rfl) fun cdv A outer s H hr hg w' ds μ ⟨d, e, hd⟩ => ?_
  subst e
  have ho := hd.notObj
  obtain ⟨t1, t2, t3, t4, t5, t6, t7, t8, t9, t10, t11, t12, t13, t14, t15, t16, t17, t18⟩ := T
  refine dss_cons ?_
  by_cases hs : isStr d = true
  · cases d with
    | str x =>
      have hx := hd.str
      have hz : x.length ≤ sizeLine := small_ok (by omega)
      walk_at "drun"
      · rename_i h1 h2 h3
        refine ⟨_, rfl, ⟨_, rfl, ?_⟩, Mus.Sub.refl _⟩
        have : ¬ x.length ≤ 8 := by have := of_decide_eq_false (Bool.not_eq_true' _ ▸ h3); omega
        simp [nameD, this]
      · rename_i h1 h2 h3
        refine de_lc 1 rfl (by show List.Nodup (["thing", "sign"] : List Str); decide +kernel) (blkOk_by (N := ["thing", "sign"]) (sc := defScope sName) (by decide +kernel)) ?_
        refine di_str (de_nm rfl ⟨_, rfl, ?_⟩)
        refine lc_map (fun d => .bl (signD d)) (by rw [signs_len]; omega) ?_ ?_
        · intro d hd w' k
          obtain ⟨c, hc, rfl⟩ := signs_mem hd
          have e1 : (⟨#[c]⟩ : Str).cps.toList = [c] := rfl
          have e2 : ("a" : Str).cps.toList = [97] := rfl
          have e3 : ("z" : Str).cps.toList = [122] := rfl
          walk_at "drun"
          · refine ⟨?_, rfl⟩
            rename_i g1
            rw [e1, e2, lt_sign] at g1
            rw [e1, e3, lt_sign]
            have g2 : 97 ≤ c := by simpa using g1
            have g3 : (!decide (122 < c)) = decide (c ≤ 122) := by
              rw [Bool.eq_iff_iff]; simp
            simp [signD, low, g2, g3]
          · refine ⟨?_, rfl⟩
            rename_i g1
            rw [e1, e2, lt_sign] at g1
            have g2 : ¬ 97 ≤ c := by simpa using g1
            simp [signD, low, g2]
        · refine da_nil (ca_all rfl (bs := (Dat.signs x).map signD) (.inl (by rw [List.map_map]; rfl)) ?_)
          refine ⟨_, rfl, ⟨_, rfl, ?_⟩, Mus.Sub.refl _⟩
          rw [signs_all]
          have g1 : 1 ≤ x.length := by have := of_decide_eq_true h2; omega
          have g2 : x.length ≤ 8 := by have := of_decide_eq_true (Bool.not_eq_false' _ ▸ h3); omega
          simp [nameD, g1, g2]
      · rename_i h1 h2 h3
        refine ⟨_, rfl, ⟨_, rfl, ?_⟩, Mus.Sub.refl _⟩
        have : ¬ 1 ≤ x.length := by have := of_decide_eq_false h2; omega
        simp [nameD, this]
    | _ => simp [isStr] at hs
  · have hs' : (!isStr d) = true := by simpa using hs
    walk_at "drun"
    · refine ⟨_, rfl, ⟨_, rfl, ?_⟩, Mus.Sub.refl _⟩
      cases d with
      | str x => simp [isStr] at hs
      | _ => rfl
    all_goals exact absurd hs' (by simp_all)
end
end K11

set_option Elab.async false
set_option linter.all false
set_option maxRecDepth 100000
set_option maxHeartbeats 4000000
namespace K11
open PySem PySem.Spec PyProof.Rows L2 Dat
local macro_rules
  | `(tactic| walk_at "down") => `(tactic| fail "none")
local macro_rules
  | `(tactic| walk_at "dset") => `(tactic| fail "none")
local macro_rules
  | `(tactic| walk_at "dhook") => `(tactic| fail "none")
local macro_rules
  | `(tactic| walk_at "dlst") => `(tactic| fail "none")
local macro_rules
  | `(tactic| walk_at "dca") => `(tactic| fail "none")
local macro_rules
  | `(tactic| walk_at "dstep") => `(tactic| first
    | ((with_reducible show DE _ _ _ _ _ _); first | ((with_reducible show DE _ _ (Expr.Name _ _) _ _ _); first | ((with_reducible show DE _ _ (Expr.Name "int" _) _ _ _); refine de_ty_int (by assumption) ?_) | ((with_reducible show DE _ _ (Expr.Name "str" _) _ _ _); refine de_ty_str (by assumption) ?_) | ((with_reducible show DE _ _ (Expr.Name "bool" _) _ _ _); refine de_ty_bool (by assumption) ?_) | ((with_reducible show DE _ _ (Expr.Name "tuple" _) _ _ _); refine de_ty_tuple (by assumption) ?_) | ((with_reducible show DE _ _ (Expr.Name "list" _) _ _ _); refine de_ty_list (by assumption) ?_) | ((with_reducible show DE _ _ (Expr.Name "dict" _) _ _ _); refine de_ty_dict (by assumption) ?_) | refine de_nm rfl ?_ | refine de_globI (by assumption) ?_) | ((with_reducible show DE _ _ (Expr.Constant _ _ _) _ _ _); first | refine de_int ?_ | refine de_str ?_ | refine de_bl ?_ | refine de_non ?_) | ((with_reducible show DE _ _ (Expr.Call (Expr.Name _ _) _ _ _) _ _ _); first | ((with_reducible show DE _ _ (Expr.Call (Expr.Name "isinstance" _) _ _ _) _ _ _); refine de_isinstance ?_ (by assumption)) | ((with_reducible show DE _ _ (Expr.Call (Expr.Name "len" _) _ _ _) _ _ _); refine de_len ?_ (by assumption)) | ((with_reducible show DE _ _ (Expr.Call (Expr.Name "max" _) _ _ _) _ _ _); refine de_max ?_ (by assumption)) | ((with_reducible show DE _ _ (Expr.Call (Expr.Name "min" _) _ _ _) _ _ _); refine de_min ?_ (by assumption)) | ((with_reducible show DE _ _ (Expr.Call (Expr.Name "all" _) _ _ _) _ _ _); refine de_all ?_ (by assumption)) | ((with_reducible show DE _ _ (Expr.Call (Expr.Name "repr" _) _ _ _) _ _ _); refine de_repr ?_ (by assumption)) | ((with_reducible show DE _ _ (Expr.Call (Expr.Name "divmod" _) _ _ _) _ _ _); refine de_divmod ?_ (by assumption)) | ((with_reducible show DE _ _ (Expr.Call (Expr.Name "list" _) _ _ _) _ _ _); refine de_clist ?_ (by assumption)) | ((with_reducible show DE _ _ (Expr.Call (Expr.Name "tuple" _) _ _ _) _ _ _); refine de_ctuple ?_ (by assumption)) | walk_at "down") | ((with_reducible show DE _ _ (Expr.BinOp _ _ _ _) _ _ _); refine de_op ?_) | ((with_reducible show DE _ _ (Expr.Compare _ [_] _ _) _ _ _); refine de_cmp ?_) | ((with_reducible show DE _ _ (Expr.Compare _ [_, _] _ _) _ _ _); refine de_chain ?_) | ((with_reducible show DE _ _ (Expr.Subscript _ (Expr.Slice _ _ _ _) _) _ _ _); refine de_slice ?_) | ((with_reducible show DE _ _ (Expr.Subscript _ _ _) _ _ _); refine de_ix ?_) | ((with_reducible show DE _ _ (Expr.BoolOp _ [_] _) _ _ _); refine de_one ?_) | ((with_reducible show DE _ _ (Expr.BoolOp BoolOp.And _ _) _ _ _); refine de_and ?_) | ((with_reducible show DE _ _ (Expr.BoolOp BoolOp.Or _ _) _ _ _); refine de_or ?_) | ((with_reducible show DE _ _ (Expr.UnaryOp UnaryOp.Not _ _) _ _ _); refine de_not ?_) | ((with_reducible show DE _ _ (Expr.UnaryOp _ _ _) _ _ _); refine de_un ?_) | ((with_reducible show DE _ _ (Expr.IfExp _ _ _ _) _ _ _); refine de_ifx ?_) | ((with_reducible show DE _ _ (Expr.Tuple _ _ _) _ _ _); refine de_tup ?_) | ((with_reducible show DE _ _ (Expr.List _ _ _) _ _ _); walk_at "dlst") | walk_at "dhook")
    | ((with_reducible show DA _ _ _ _ _ _); first | ((with_reducible show DA _ _ [] _ _ _); refine da_nil ?_) | ((with_reducible show DA _ _ (_ :: _) _ _ _); refine da_cons ?_))
    | ((with_reducible show BoolR _ _); refine ⟨_, rfl, ?_⟩)
    | ((with_reducible show (_ = true → _) ∧ (_ = false → _)); (refine ⟨fun h => ?_, fun h => ?_⟩ <;> try (exact Bool.noConfusion h)))
    | ((with_reducible show OpD _ _ _ _ _ _ _); first | ((with_reducible show OpD _ _ (binaryOp Operator.Add) _ _ _ _); first | refine op_addI ?_ | refine op_addT ?_) | ((with_reducible show OpD _ _ (binaryOp Operator.Sub) _ _ _ _); refine op_subI ?_) | ((with_reducible show OpD _ _ (binaryOp Operator.Mod) _ _ _ _); refine op_modI (by decide) ?_) | ((with_reducible show OpD _ _ (binaryOp Operator.Mult) _ _ _ _); refine op_mulI ?_) | ((with_reducible show OpD _ _ (compareOp CmpOp.Lt) _ _ _ _); refine op_ltI ?_) | ((with_reducible show OpD _ _ (compareOp CmpOp.LtE) _ _ _ _); first | refine op_leI ?_ | refine op_leS ?_) | ((with_reducible show OpD _ _ (compareOp CmpOp.Gt) _ _ _ _); refine op_gtI ?_) | ((with_reducible show OpD _ _ (compareOp CmpOp.GtE) _ _ _ _); refine op_geI ?_) | ((with_reducible show OpD _ _ (compareOp CmpOp.Eq) _ _ _ _); first | refine op_eqI ?_ | refine op_eqS ?_) | ((with_reducible show OpD _ _ (compareOp CmpOp.NotEq) _ _ _ _); first | refine op_neI ?_ | refine op_neS ?_))
    | ((with_reducible show CaD _ _ _ _ _ _); first | ((with_reducible show CaD _ _ (Value.builtin "isinstance") [_, SV.ty "int"] _ _); refine ca_isi (by assumption) (kit_int _ (by assumption)) ?_) | ((with_reducible show CaD _ _ (Value.builtin "isinstance") [_, SV.ty "bool"] _ _); refine ca_isi (by assumption) (kit_bool _ (by assumption)) ?_) | ((with_reducible show CaD _ _ (Value.builtin "isinstance") [_, SV.ty "str"] _ _); refine ca_isi (by assumption) (kit_str _ (by assumption)) ?_) | ((with_reducible show CaD _ _ (Value.builtin "isinstance") [_, SV.ty "tuple"] _ _); refine ca_isi (by assumption) (kit_tuple _ (by assumption)) ?_) | ((with_reducible show CaD _ _ (Value.builtin "isinstance") [_, SV.ty "list"] _ _); refine ca_isi (by assumption) (kit_list _ (by assumption)) ?_) | ((with_reducible show CaD _ _ (Value.builtin "isinstance") [_, SV.ty "dict"] _ _); refine ca_isi (by assumption) (kit_dict _ (by assumption)) ?_) | ((with_reducible show CaD _ _ (Value.builtin "max") _ _ _); refine ca_max2 rfl ?_) | ((with_reducible show CaD _ _ (Value.builtin "min") _ _ _); refine ca_min2 rfl ?_) | ((with_reducible show CaD _ _ (Value.builtin "len") _ _ _); first | refine ca_lenT ?_ | refine ca_lenS (by assumption) ?_) | walk_at "dca")
    | ((with_reducible show DT _ _ _ _ _ _); first | ((with_reducible show DT _ _ (Expr.BoolOp _ _ _) _ _ _); refine dt_w ?_) | ((with_reducible show DT _ _ (Expr.UnaryOp UnaryOp.Not _ _) _ _ _); refine dt_not ?_) | ((with_reducible show DT _ _ (Expr.Compare _ [_] _ _) _ _ _); refine dt_cmp ?_) | ((with_reducible show DT _ _ (Expr.Compare _ [_, _] _ _) _ _ _); refine dt_chain ?_) | refine dt_val ?_)
    | ((with_reducible show DW _ _ _ _ _ _); first | ((with_reducible show DW _ _ (Expr.BoolOp BoolOp.And [_] _) _ _ _); refine dw_and1 ?_) | ((with_reducible show DW _ _ (Expr.BoolOp BoolOp.Or [_] _) _ _ _); refine dw_or1 ?_) | ((with_reducible show DW _ _ (Expr.BoolOp BoolOp.And _ _) _ _ _); refine dw_and ?_) | ((with_reducible show DW _ _ (Expr.BoolOp BoolOp.Or _ _) _ _ _); refine dw_or ?_))
    | ((with_reducible show DSs _ _ _ _ _ _); first | ((with_reducible show DSs _ _ [] _ _ _); refine dss_nil ?_) | ((with_reducible show DSs _ _ [_] _ _ _); refine dss_one ?_) | ((with_reducible show DSs _ _ (_ :: _) _ _ _); refine dss_cons ?_))
    | ((with_reducible show DS _ _ _ _ _ _); first | ((with_reducible show DS _ _ (Stmt.Return (some _) _) _ _ _); refine ds_ret ?_) | ((with_reducible show DS _ _ (Stmt.If _ _ _ _) _ _ _); refine ds_if ?_) | ((with_reducible show DS _ _ (Stmt.Expr _ _) _ _ _); refine ds_expr ?_) | ((with_reducible show DS _ _ (Stmt.Assign [Expr.Name _ _] _ _) _ _ _); walk_at "dset"))
    | ((with_reducible show DP _ _ none _ _ _); refine dp_none ?_)
    | ((with_reducible show DP _ _ (some _) _ _ _); refine dp_some ?_)
    | ((with_reducible show ∃ d, SV.dat _ = SV.dat d ∧ Fi d ∧ _); refine ⟨_, rfl, by assumption, ?_⟩)
    | ((with_reducible show ∃ i, SV.dat (Dt.int _) = SV.dat (Dt.int i) ∧ _); refine ⟨_, rfl, ?_⟩)
    | ((with_reducible show UnD _ _ (unaryOp UnaryOp.USub) _ _ _); refine un_negI ?_)
    | ((with_reducible show Po.nx _ _ _); dsimp only)
    | ((with_reducible show Po.rt _ _ _); dsimp only))
local macro_rules
  | `(tactic| walk_at "drun") => `(tactic| repeat' (walk_at "dstep"))

section
variable {P : Program} {w : World} {K : PySem.W.Frag} {mg : Str → Option Value} {base : Heap}
set_option hygiene false in
local macro_rules
  | `(tactic| walk_at "down") => `(tactic| first | ((with_reducible show DE _ _ (Expr.Call (Expr.Name "is_whole" _) _ _ _) _ _ _); refine de_p1 oWhole hr (by decide) hg ?_) | ((with_reducible show DE _ _ (Expr.Call (Expr.Name "is_name" _) _ _ _) _ _ _); refine de_p1 oName hr (by decide) hg ?_) | ((with_reducible show DE _ _ (Expr.Call (Expr.Name "is_place" _) _ _ _) _ _ _); refine de_p1 oPlace hr (by decide) hg ?_))
/-! ### is_place -/
abbrev sPlace : Stmt := top 9
theorem scPlace : FnScope ["thing"] ["thing"] (defScope sPlace) := ⟨rfl, rfl, rfl, by decide +kernel, rfl, by decide +kernel, by decide +kernel⟩
theorem ok_place {f : Addr} {fd : FuncData} (F : Fun K "is_place" "is_place" sPlace f fd) (T : Txt mg) (oWhole : Own P w K mg base "is_whole" 1 spWhole) : FnG P w K mg base 2 f fd ["thing"] spPlace := by
  refine fn_pure F scPlace (fun ds ⟨d, e, _⟩ => by rw [e]; rfl) fun cdv A outer s H hr hg w' ds μ ⟨d, e, hd⟩ => ?_
  subst e
  have ho := hd.notObj
  obtain ⟨t1, t2, t3, t4, t5, t6, t7, t8, t9, t10, t11, t12, t13, t14, t15, t16, t17, t18⟩ := T
  refine dss_one ?_
  cases d with
  | int n =>
    walk_at "drun"
    · refine ⟨_, rfl, ⟨_, rfl, ?_⟩, Mus.Sub.refl _⟩
      rename_i h1 h2
      simp [inD, of_decide_eq_true h2]
    · refine ⟨_, rfl, ⟨_, rfl, ?_⟩, Mus.Sub.refl _⟩
      rename_i h1 h2
      have : ¬ 0 ≤ n := of_decide_eq_false h2
      simp [inD, this]
  | obj _ _ _ => exact Bool.noConfusion ho
  | _ => walk_at "drun" <;> exact ⟨_, rfl, ⟨_, rfl, rfl⟩, Mus.Sub.refl _⟩
/-! ### is_who -/
abbrev sWho : Stmt := top 10
theorem scWho : FnScope ["thing", "part"] ["thing"] (defScope sWho) := ⟨rfl, rfl, rfl, by decide +kernel, rfl, by decide +kernel, by decide +kernel⟩
theorem ok_who {f : Addr} {fd : FuncData} (F : Fun K "is_who" "is_who" sWho f fd) (T : Txt mg) (oName : Own P w K mg base "is_name" 1 spName) (oPlace : Own P w K mg base "is_place" 2 spPlace) : FnG P w K mg base 3 f fd ["thing"] spWho := by
  refine fn_pure F scWho (fun ds ⟨d, e, _⟩ => by rw [e]; rfl) fun cdv A outer s H hr hg w' ds μ ⟨d, e, hd⟩ => ?_
  subst e
  have ho := hd.notObj
  obtain ⟨t1, t2, t3, t4, t5, t6, t7, t8, t9, t10, t11, t12, t13, t14, t15, t16, t17, t18⟩ := T
  have hN : (["thing", "part"] : List Str).Nodup := by decide +kernel
  cases d with
  | tup xs =>
    cases xs with
    | nil =>
      refine dss_cons ?_
      walk_at "drun"
      · exact ⟨_, rfl, ⟨_, rfl, rfl⟩, Mus.Sub.refl _⟩
    | cons d ds =>
      have hx := hd.tup
      have hfd := hx.2 d List.mem_cons_self
      have hl := hx.1
      rw [List.length_cons] at hl
      refine dss_cons ?_
      walk_at "drun"
      refine ix_dT (atI_head d ds) ?_
      walk_at "drun"
      · rename_i h3
        refine de_lc 1 rfl hN (blkOk_by (N := ["thing", "part"]) (sc := defScope sWho) (by decide +kernel)) ?_
        refine di_tup ?_
        walk_at "drun"
        refine sl_dT ?_
        rw [cut_tail]
        refine ⟨_, rfl, lc_map (fun d => .bl (inD 0 11 d)) (by omega) ?_ ?_⟩
        · intro d' hd' w' k
          have hf' := hx.2 d' (List.mem_cons_of_mem _ hd')
          walk_at "drun"
          exact ⟨rfl, rfl⟩
        · walk_at "drun"
          refine ca_all rfl (bs := ds.map (inD 0 11)) (.inl (by rw [List.map_map]; rfl)) ?_
          refine ⟨_, rfl, ⟨_, rfl, ?_⟩, Mus.Sub.refl _⟩
          simp [whoD, h3, List.all_map]
      · rename_i h3
        refine ⟨_, rfl, ⟨_, rfl, ?_⟩, Mus.Sub.refl _⟩
        simp [whoD, h3]
  | obj _ _ _ => exact Bool.noConfusion ho
  | _ =>
    refine dss_cons ?_
    walk_at "drun"
    all_goals exact ⟨_, rfl, ⟨_, rfl, rfl⟩, Mus.Sub.refl _⟩
/-! ### is_lots -/
abbrev sLots : Stmt := top 8
theorem scLots : FnScope ["thing", "fresh", "lot"] ["thing"] (defScope sLots) := ⟨rfl, rfl, rfl, by decide +kernel, rfl, by decide +kernel, by decide +kernel⟩
set_option hygiene false in
local macro_rules
  | `(tactic| walk_at "dset") => `(tactic| refine ds_set 1 hN ?_)
theorem ok_lots {f : Addr} {fd : FuncData} (F : Fun K "is_lots" "is_lots" sLots f fd) (T : Txt mg) (oWhole : Own P w K mg base "is_whole" 1 spWhole) : FnG P w K mg base 2 f fd ["thing"] spLots := by
  refine fn_pure F scLots (fun ds ⟨d, e, _⟩ => by rw [e]; rfl) fun cdv A outer s H hr hg w' ds μ ⟨d, e, hd⟩ => ?_
  subst e
  have ho := hd.notObj
  obtain ⟨t1, t2, t3, t4, t5, t6, t7, t8, t9, t10, t11, t12, t13, t14, t15, t16, t17, t18⟩ := T
  have hN : (["thing", "fresh", "lot"] : List Str).Nodup := by decide +kernel
  refine dss_cons ?_
  cases d with
  | tup xs =>
    have hx := hd.tup
    walk_at "drun"
    · rename_i h1 h2
      refine ⟨_, rfl, ⟨_, rfl, ?_⟩, Mus.Sub.refl _⟩
      have : ¬ xs.length ≤ 6 := by have := of_decide_eq_true h2; omega
      simp [lotsD, this]
    · rename_i h1 h2
      have h6 : xs.length ≤ 6 := by have := of_decide_eq_false h2; omega
      refine ds_for (di_tup (de_nm rfl ⟨_, rfl, fun n ρ' μ' => μ' = μ ∧ ∃ (fr : Int) (a : SV), 0 ≤ fr ∧ ρ' = [.dat (.tup xs), .dat (.int fr), a] ∧ lotsGo 0 xs = lotsGo fr (xs.drop n), ⟨rfl, 0, .no, by omega, rfl, rfl⟩, ?_, ?_⟩)) PassesOwn.never rfl
      · rintro n d ρ' μ' hi ⟨rfl, fr, a, hf0, rfl, he⟩
        have hfd := hx.2 d (List.mem_of_getElem? hi)
        have hd2 : xs.drop n = d :: xs.drop (n + 1) := List.drop_eq_getElem?_toList_append.trans (by rw [hi]; rfl)
        refine dg_name 2 hN ?_
        refine dss_cons ?_
        have ho' := hfd.notObj
        cases d with
        | int m =>
          walk_at "drun"
          · rename_i g1 g2 g3
            have g2' := of_decide_eq_true g2
            have g3' : ¬ m ≤ fr := of_decide_eq_false (Bool.not_eq_true' _ ▸ g3)
            refine ⟨_, rfl, ⟨_, rfl, ?_⟩, Mus.Sub.refl _⟩
            simp [lotsD, h6, he, hd2, lotsGo, g2', g3']
          · rename_i g1 g2 g3
            have g2' := of_decide_eq_true g2
            have g3' : m ≤ fr := of_decide_eq_true (Bool.not_eq_false' _ ▸ g3)
            refine ⟨rfl, _, _, ?_, rfl, ?_⟩
            · omega
            · simp [he, hd2, lotsGo, g2', g3']
          · rename_i g1 g2 g3
            have g2' := of_decide_eq_false g2
            refine ⟨_, rfl, ⟨_, rfl, ?_⟩, Mus.Sub.refl _⟩
            simp [lotsD, h6, he, hd2, lotsGo, g2']
        | obj _ _ _ => exact Bool.noConfusion ho'
        | _ =>
          walk_at "drun"
          all_goals refine ⟨_, rfl, ⟨_, rfl, ?_⟩, Mus.Sub.refl _⟩
          all_goals simp [lotsD, h6, he, hd2, lotsGo]
      · rintro ρ' μ' ⟨rfl, fr, a, hf0, rfl, he⟩
        walk_at "drun"
        refine ⟨_, rfl, ⟨_, rfl, ?_⟩, Mus.Sub.refl _⟩
        rw [List.drop_length] at he
        simp [lotsD, h6, he, lotsGo]
  | obj _ _ _ => exact Bool.noConfusion ho
  | _ =>
    walk_at "drun"
    all_goals exact ⟨_, rfl, ⟨_, rfl, rfl⟩, Mus.Sub.refl _⟩
end
end K11

set_option Elab.async false
set_option linter.all false
set_option maxRecDepth 100000
set_option maxHeartbeats 4000000
namespace K11
open PySem PySem.Spec PyProof.Rows L2 Dat
local macro_rules
  | `(tactic| walk_at "down") => `(tactic| fail "none")
local macro_rules
  | `(tactic| walk_at "dset") => `(tactic| fail "none")
local macro_rules
  | `(tactic| walk_at "dhook") => `(tactic| fail "none")
local macro_rules
  | `(tactic| walk_at "dca") => `(tactic| fail "none")
local macro_rules
  | `(tactic| walk_at "dlst") => `(tactic| refine de_lst ?_)
local macro_rules
  | `(tactic| walk_at "dstep") => `(tactic| first
    | ((with_reducible show DE _ _ _ _ _ _); first | ((with_reducible show DE _ _ (Expr.Name _ _) _ _ _); first | ((with_reducible show DE _ _ (Expr.Name "int" _) _ _ _); refine de_ty_int (by assumption) ?_) | ((with_reducible show DE _ _ (Expr.Name "str" _) _ _ _); refine de_ty_str (by assumption) ?_) | ((with_reducible show DE _ _ (Expr.Name "bool" _) _ _ _); refine de_ty_bool (by assumption) ?_) | ((with_reducible show DE _ _ (Expr.Name "tuple" _) _ _ _); refine de_ty_tuple (by assumption) ?_) | ((with_reducible show DE _ _ (Expr.Name "list" _) _ _ _); refine de_ty_list (by assumption) ?_) | ((with_reducible show DE _ _ (Expr.Name "dict" _) _ _ _); refine de_ty_dict (by assumption) ?_) | refine de_nm rfl ?_ | refine de_globI (by assumption) ?_) | ((with_reducible show DE _ _ (Expr.Constant _ _ _) _ _ _); first | refine de_int ?_ | refine de_str ?_ | refine de_bl ?_ | refine de_non ?_) | ((with_reducible show DE _ _ (Expr.Call (Expr.Name _ _) _ _ _) _ _ _); first | ((with_reducible show DE _ _ (Expr.Call (Expr.Name "isinstance" _) _ _ _) _ _ _); refine de_isinstance ?_ (by assumption)) | ((with_reducible show DE _ _ (Expr.Call (Expr.Name "len" _) _ _ _) _ _ _); refine de_len ?_ (by assumption)) | ((with_reducible show DE _ _ (Expr.Call (Expr.Name "max" _) _ _ _) _ _ _); refine de_max ?_ (by assumption)) | ((with_reducible show DE _ _ (Expr.Call (Expr.Name "min" _) _ _ _) _ _ _); refine de_min ?_ (by assumption)) | ((with_reducible show DE _ _ (Expr.Call (Expr.Name "all" _) _ _ _) _ _ _); refine de_all ?_ (by assumption)) | ((with_reducible show DE _ _ (Expr.Call (Expr.Name "repr" _) _ _ _) _ _ _); refine de_repr ?_ (by assumption)) | ((with_reducible show DE _ _ (Expr.Call (Expr.Name "divmod" _) _ _ _) _ _ _); refine de_divmod ?_ (by assumption)) | ((with_reducible show DE _ _ (Expr.Call (Expr.Name "list" _) _ _ _) _ _ _); refine de_clist ?_ (by assumption)) | ((with_reducible show DE _ _ (Expr.Call (Expr.Name "tuple" _) _ _ _) _ _ _); refine de_ctuple ?_ (by assumption)) | walk_at "down") | ((with_reducible show DE _ _ (Expr.BinOp _ _ _ _) _ _ _); refine de_op ?_) | ((with_reducible show DE _ _ (Expr.Compare _ [_] _ _) _ _ _); refine de_cmp ?_) | ((with_reducible show DE _ _ (Expr.Compare _ [_, _] _ _) _ _ _); refine de_chain ?_) | ((with_reducible show DE _ _ (Expr.Subscript _ (Expr.Slice _ _ _ _) _) _ _ _); refine de_slice ?_) | ((with_reducible show DE _ _ (Expr.Subscript _ _ _) _ _ _); refine de_ix ?_) | ((with_reducible show DE _ _ (Expr.BoolOp _ [_] _) _ _ _); refine de_one ?_) | ((with_reducible show DE _ _ (Expr.BoolOp BoolOp.And _ _) _ _ _); refine de_and ?_) | ((with_reducible show DE _ _ (Expr.BoolOp BoolOp.Or _ _) _ _ _); refine de_or ?_) | ((with_reducible show DE _ _ (Expr.UnaryOp UnaryOp.Not _ _) _ _ _); refine de_not ?_) | ((with_reducible show DE _ _ (Expr.UnaryOp _ _ _) _ _ _); refine de_un ?_) | ((with_reducible show DE _ _ (Expr.IfExp _ _ _ _) _ _ _); refine de_ifx ?_) | ((with_reducible show DE _ _ (Expr.Tuple _ _ _) _ _ _); refine de_tup ?_) | ((with_reducible show DE _ _ (Expr.List _ _) _ _ _); walk_at "dlst") | walk_at "dhook")
    | ((with_reducible show DA _ _ _ _ _ _); first | ((with_reducible show DA _ _ [] _ _ _); refine da_nil ?_) | ((with_reducible show DA _ _ (_ :: _) _ _ _); refine da_cons ?_))
    | ((with_reducible show BoolR _ _); refine ⟨_, rfl, ?_⟩)
    | ((with_reducible show (_ = true → _) ∧ (_ = false → _)); (refine ⟨fun h => ?_, fun h => ?_⟩ <;> try (exact Bool.noConfusion h)))
    | ((with_reducible show OpD _ _ _ _ _ _ _); first | ((with_reducible show OpD _ _ (binaryOp Operator.Add) _ _ _ _); first | refine op_addI ?_ | refine op_addT ?_) | ((with_reducible show OpD _ _ (binaryOp Operator.Sub) _ _ _ _); refine op_subI ?_) | ((with_reducible show OpD _ _ (binaryOp Operator.Mod) _ _ _ _); refine op_modI (by decide) ?_) | ((with_reducible show OpD _ _ (binaryOp Operator.Mult) _ _ _ _); refine op_mulI ?_) | ((with_reducible show OpD _ _ (compareOp CmpOp.Lt) _ _ _ _); refine op_ltI ?_) | ((with_reducible show OpD _ _ (compareOp CmpOp.LtE) _ _ _ _); first | refine op_leI ?_ | refine op_leS ?_) | ((with_reducible show OpD _ _ (compareOp CmpOp.Gt) _ _ _ _); refine op_gtI ?_) | ((with_reducible show OpD _ _ (compareOp CmpOp.GtE) _ _ _ _); refine op_geI ?_) | ((with_reducible show OpD _ _ (compareOp CmpOp.Eq) _ _ _ _); first | refine op_eqI ?_ | refine op_eqS ?_) | ((with_reducible show OpD _ _ (compareOp CmpOp.NotEq) _ _ _ _); first | refine op_neI ?_ | refine op_neS ?_))
    | ((with_reducible show CaD _ _ _ _ _ _); first | ((with_reducible show CaD _ _ (Value.builtin "isinstance") [_, SV.ty "int"] _ _); refine ca_isi (by assumption) (kit_int _ (by assumption)) ?_) | ((with_reducible show CaD _ _ (Value.builtin "isinstance") [_, SV.ty "bool"] _ _); refine ca_isi (by assumption) (kit_bool _ (by assumption)) ?_) | ((with_reducible show CaD _ _ (Value.builtin "isinstance") [_, SV.ty "str"] _ _); refine ca_isi (by assumption) (kit_str _ (by assumption)) ?_) | ((with_reducible show CaD _ _ (Value.builtin "isinstance") [_, SV.ty "tuple"] _ _); refine ca_isi (by assumption) (kit_tuple _ (by assumption)) ?_) | ((with_reducible show CaD _ _ (Value.builtin "isinstance") [_, SV.ty "list"] _ _); refine ca_isi (by assumption) (kit_list _ (by assumption)) ?_) | ((with_reducible show CaD _ _ (Value.builtin "isinstance") [_, SV.ty "dict"] _ _); refine ca_isi (by assumption) (kit_dict _ (by assumption)) ?_) | ((with_reducible show CaD _ _ (Value.builtin "max") _ _ _); refine ca_max2 rfl ?_) | ((with_reducible show CaD _ _ (Value.builtin "min") _ _ _); refine ca_min2 rfl ?_) | ((with_reducible show CaD _ _ (Value.builtin "len") _ _ _); first | refine ca_lenT ?_ | refine ca_lenS (by assumption) ?_) | ((with_reducible show CaD _ _ (Value.type "list") _ _ _); refine ca_listT ?_) | walk_at "dca")
    | ((with_reducible show DT _ _ _ _ _ _); first | ((with_reducible show DT _ _ (Expr.BoolOp _ _ _) _ _ _); refine dt_w ?_) | ((with_reducible show DT _ _ (Expr.UnaryOp UnaryOp.Not _ _) _ _ _); refine dt_not ?_) | ((with_reducible show DT _ _ (Expr.Compare _ [_] _ _) _ _ _); refine dt_cmp ?_) | ((with_reducible show DT _ _ (Expr.Compare _ [_, _] _ _) _ _ _); refine dt_chain ?_) | refine dt_val ?_)
    | ((with_reducible show DW _ _ _ _ _ _); first | ((with_reducible show DW _ _ (Expr.BoolOp BoolOp.And [_] _) _ _ _); refine dw_and1 ?_) | ((with_reducible show DW _ _ (Expr.BoolOp BoolOp.Or [_] _) _ _ _); refine dw_or1 ?_) | ((with_reducible show DW _ _ (Expr.BoolOp BoolOp.And _ _) _ _ _); refine dw_and ?_) | ((with_reducible show DW _ _ (Expr.BoolOp BoolOp.Or _ _) _ _ _); refine dw_or ?_))
    | ((with_reducible show DSs _ _ _ _ _ _); first | ((with_reducible show DSs _ _ [] _ _ _); refine dss_nil ?_) | ((with_reducible show DSs _ _ [_] _ _ _); refine dss_one ?_) | ((with_reducible show DSs _ _ (_ :: _) _ _ _); refine dss_cons ?_))
    | ((with_reducible show DS _ _ _ _ _ _); first | ((with_reducible show DS _ _ (Stmt.Return (some _) _) _ _ _); refine ds_ret ?_) | ((with_reducible show DS _ _ (Stmt.If _ _ _ _) _ _ _); refine ds_if ?_) | ((with_reducible show DS _ _ (Stmt.Expr _ _) _ _ _); refine ds_expr ?_) | ((with_reducible show DS _ _ (Stmt.Assign [Expr.Name _ _] _ _) _ _ _); walk_at "dset"))
    | ((with_reducible show DP _ _ none _ _ _); refine dp_none ?_)
    | ((with_reducible show DP _ _ (some _) _ _ _); refine dp_some ?_)
    | ((with_reducible show ∃ d, SV.dat _ = SV.dat d ∧ Fi d ∧ _); refine ⟨_, rfl, by assumption, ?_⟩)
    | ((with_reducible show ∃ i, SV.dat (Dt.int _) = SV.dat (Dt.int i) ∧ _); refine ⟨_, rfl, ?_⟩)
    | ((with_reducible show SlD _ _ (SV.dat (Dt.tup _)) _ _ _ _); refine sl_dT ?_)
    | ((with_reducible show ∃ ds, undat _ = some ds ∧ ds.length ≤ 1000 ∧ _); refine ⟨_, rfl, Nat.le_of_ble_eq_true rfl, ?_⟩)
    | ((with_reducible show UnD _ _ (unaryOp UnaryOp.USub) _ _ _); refine un_negI ?_)
    | ((with_reducible show Po.nx _ _ _); dsimp only)
    | ((with_reducible show Po.rt _ _ _); dsimp only))
local macro_rules
  | `(tactic| walk_at "drun") => `(tactic| repeat' (walk_at "dstep"))

theorem strs_facts : ∀ zs : List Str, (∀ z ∈ zs, PyData.strOk z = true) → noDicA (zs.map Dt.str) = true ∧ PyData.canLayAll0 (toPyA (zs.map Dt.str)) = true ∧ PyData.depthAll (toPyA (zs.map Dt.str)) = 0
  | [], _ => by simp [noDicA, toPyA, PyData.canLayAll0, PyData.depthAll]
  | z :: zs, h => by
    obtain ⟨h1, h2, h3⟩ := strs_facts zs fun y hy => h y (List.mem_cons_of_mem _ hy)
    have h0 := h z List.mem_cons_self
    simp [noDicA, noDic, toPyA, toPy, PyData.canLayAll0, PyData.canLay0, PyData.depthAll, PyData.depth, h0, h1, h2, h3]
theorem eqv_nil (zs : List Str) : PyData.eqv (toPy (.lst (zs.map Dt.str))) (toPy (.lst [])) = zs.isEmpty := by
  cases zs <;> simp [toPy, toPyA, PyData.eqv, PyData.eqvAll]
theorem shaped_strs (zs : List Str) (h : ∀ z ∈ zs, PyData.strOk z = true) : SeqAt.shaped (toPy (.lst (zs.map Dt.str))) = true := by
  obtain ⟨h1, h2, h3⟩ := strs_facts zs h
  simp [SeqAt.shaped, toPy, PyData.canLay0, PyData.depth, h2, h3]
theorem noDic_strs (zs : List Str) (h : ∀ z ∈ zs, PyData.strOk z = true) : noDic (.lst (zs.map Dt.str)) = true := by
  simp [noDic, (strs_facts zs h).1]

theorem low_iff (c : Nat) : decide (c ∈ (("abcdefghijklmnopqrstuvwxyz" : Str)).cps.toList) = low c := by
  have e : ("abcdefghijklmnopqrstuvwxyz" : Str).cps.toList = (List.range 26).map (97 + ·) := by decide +kernel
  rw [e, Bool.eq_iff_iff, decide_eq_true_eq, List.mem_map]
  unfold low
  rw [Bool.and_eq_true, decide_eq_true_eq, decide_eq_true_eq]
  constructor
  · rintro ⟨k, hk, rfl⟩
    rw [List.mem_range] at hk
    omega
  · rintro ⟨h1, h2⟩
    exact ⟨c - 97, by rw [List.mem_range]; omega, by omega⟩
theorem filt_none (x : Str) : ((Dat.signs x).filter fun d => !signD d).isEmpty = x.cps.toList.all low := by
  rw [← signs_all]
  induction Dat.signs x with
  | nil => rfl
  | cons d ds ih =>
    rw [List.filter_cons, List.map_cons, List.all_cons]
    cases signD d
    · rfl
    · simpa using ih
def signZ (x : Str) : List Str := x.cps.toList.map fun c => ⟨#[c]⟩
theorem signs_Z (x : Str) : Dat.signs x = (signZ x).map Dt.str := by
  unfold Dat.signs signZ
  rw [List.map_map]
  rfl
def okInl : List Dt → Prop := fun ds => ∃ d lo hi, ds = [d, .int lo, .int hi] ∧ Fi d
def reInl : List Dt → Dt → Prop := fun ds r => ∃ d lo hi, ds = [d, .int lo, .int hi] ∧ r = .bl (inD lo hi d)
def spInl : Sp := PSp okInl reInl
set_option hygiene false in
local macro_rules
  | `(tactic| walk_at "down") => `(tactic| first | ((with_reducible show DE _ _ (Expr.Call (Expr.Name "_law_is_label" _) _ _ _) _ _ _); refine de_p1 oLabel hr (by decide) hg ?_) | ((with_reducible show DE _ _ (Expr.Call (Expr.Name "_law_is_whole" _) _ _ _) _ _ _); refine de_pure oInl hr (by decide) hg ?_) | ((with_reducible show DE _ _ (Expr.Call (Expr.Name "_law_are_lots" _) _ _ _) _ _ _); refine de_p1 oLots hr (by decide) hg ?_)  | ((with_reducible show DE _ _ (Expr.Call (Expr.Name "_law_is_path" _) _ _ _) _ _ _); refine de_p1 oPath hr (by decide) hg ?_))
section
variable {P : Program} {w : World} {K : PySem.W.Frag} {mg : Str → Option Value} {base : Heap}
/-! ### the law's look at a label -/
abbrev sLabel : Stmt := top 17
theorem scLabel : FnScope ["_law_thing", "_law_sign"] ["_law_thing"] (defScope sLabel) := ⟨rfl, rfl, rfl, by decide +kernel, rfl, by decide +kernel, by decide +kernel⟩
theorem ok_label {f : Addr} {fd : FuncData} (F : Fun K "_law_is_label" "_law_is_label" sLabel f fd) (T : Txt mg) : FnG P w K mg base 1 f fd ["_law_thing"] spName := by
  refine fn_pure F scLabel (fun ds ⟨d, e, _⟩ => by rw [e]; rfl) fun cdv A outer s H hr hg w' ds μ ⟨d, e, hd⟩ => ?_
  subst e
  have ho := hd.notObj
  obtain ⟨t1, t2, t3, t4, t5, t6, t7, t8, t9, t10, t11, t12, t13, t14, t15, t16, t17, t18⟩ := T
  have hN : (["_law_thing", "_law_sign"] : List Str).Nodup := by decide +kernel
  refine dss_cons ?_
  cases d with
  | str x =>
    have hx := hd.str
    have hz : x.length ≤ sizeLine := small_ok (by omega)
    walk_at "drun"
    · rename_i h1 h2 h3
      refine ⟨_, rfl, ⟨_, rfl, ?_⟩, Mus.Sub.refl _⟩
      have : ¬ x.length ≤ 8 := by have := of_decide_eq_false (Bool.not_eq_true' _ ▸ h3); omega
      simp [nameD, this]
    · rename_i h1 h2 h3
      refine de_lc 1 rfl hN (blkOk_by (N := ["_law_thing", "_law_sign"]) (sc := defScope sLabel) (by decide +kernel)) ?_
      refine di_str (de_nm rfl ⟨_, rfl, ?_⟩)
      refine lc_filter id (fun d => !signD d) (by rw [signs_len]; omega) ?_ ?_ ?_
      · intro d hd w' k
        obtain ⟨c, hc, rfl⟩ := signs_mem hd
        walk_at "drun"
        refine op_signNotIn ?_
        walk_at "drun"
        refine ⟨?_, rfl⟩
        rw [low_iff]
        simp [signD]
      · intro d hd hp w' k
        obtain ⟨c, hc, rfl⟩ := signs_mem hd
        walk_at "drun"
        exact ⟨rfl, rfl⟩
      · walk_at "drun"
        have ok : ∀ z ∈ (signZ x).filter (fun z => !signD (.str z)), PyData.strOk z = true := by
          intro z hz'
          obtain ⟨c, hc, rfl⟩ := List.mem_map.mp (List.mem_filter.mp hz').1
          have := hx.2 c hc
          simp [PyData.strOk]
          omega
        have e : List.map id (List.filter (fun d => !signD d) (Dat.signs x)) = ((signZ x).filter (fun z => !signD (.str z))).map Dt.str := by
          rw [List.map_id, signs_Z, List.filter_map]
          rfl
        rw [e]
        refine op_eqDt hr (noDic_strs _ ok) rfl (shaped_strs _ ok) (shaped_strs [] nofun) ?_
        rw [eqv_nil]
        have e2 : ((signZ x).filter (fun z => !signD (.str z))).isEmpty = x.cps.toList.all low := by
          rw [← filt_none, signs_Z, List.filter_map, List.isEmpty_map]
          rfl
        rw [e2]
        refine ⟨_, rfl, ⟨_, rfl, ?_⟩, Mus.Sub.refl _⟩
        have g1 : 1 ≤ x.length := by have := of_decide_eq_true h2; omega
        have g2 : x.length ≤ 8 := by have := of_decide_eq_true (Bool.not_eq_false' _ ▸ h3); omega
        simp [nameD, g1, g2]
    · rename_i h1 h2 h3
      refine ⟨_, rfl, ⟨_, rfl, ?_⟩, Mus.Sub.refl _⟩
      have : ¬ 1 ≤ x.length := by have := of_decide_eq_false h2; omega
      simp [nameD, this]
  | obj _ _ _ => exact Bool.noConfusion ho
  | _ =>
    walk_at "drun"
    all_goals exact ⟨_, rfl, ⟨_, rfl, rfl⟩, Mus.Sub.refl _⟩
/-! ### the law's look at a number -/
abbrev sInl : Stmt := top 18
theorem scInl : FnScope ["_law_thing", "_law_low", "_law_high"] ["_law_thing", "_law_low", "_law_high"] (defScope sInl) := ⟨rfl, rfl, rfl, by decide +kernel, rfl, by decide +kernel, by decide +kernel⟩
theorem ok_inl {f : Addr} {fd : FuncData} (F : Fun K "_law_is_whole" "_law_is_whole" sInl f fd) (T : Txt mg) : FnG P w K mg base 1 f fd ["_law_thing", "_law_low", "_law_high"] spInl := by
  refine fn_pure F scInl (fun ds ⟨d, lo, hi, e, _⟩ => by rw [e]; rfl) fun cdv A outer s H hr hg w' ds μ ⟨d, lo, hi, e, hd⟩ => ?_
  subst e
  have ho := hd.notObj
  obtain ⟨t1, t2, t3, t4, t5, t6, t7, t8, t9, t10, t11, t12, t13, t14, t15, t16, t17, t18⟩ := T
  refine dss_one ?_
  cases d with
  | int n =>
    walk_at "drun"
    · refine ⟨_, rfl, ⟨_, _, _, rfl, ?_⟩, Mus.Sub.refl _⟩
      rename_i h1 h2
      simp [inD, of_decide_eq_true h2]
    · refine ⟨_, rfl, ⟨_, _, _, rfl, ?_⟩, Mus.Sub.refl _⟩
      rename_i h1 h2
      simp [inD, of_decide_eq_false h2]
  | obj _ _ _ => exact Bool.noConfusion ho
  | _ => walk_at "drun" <;> exact ⟨_, rfl, ⟨_, _, _, rfl, rfl⟩, Mus.Sub.refl _⟩
/-! ### the law's look at a path -/
abbrev sPath : Stmt := top 20
theorem scPath : FnScope ["_law_thing", "_law_place"] ["_law_thing"] (defScope sPath) := ⟨rfl, rfl, rfl, by decide +kernel, rfl, by decide +kernel, by decide +kernel⟩
theorem ok_path {f : Addr} {fd : FuncData} (F : Fun K "_law_is_path" "_law_is_path" sPath f fd) (T : Txt mg) (oLabel : Own P w K mg base "_law_is_label" 1 spName) (oInl : Own P w K mg base "_law_is_whole" 1 spInl) : FnG P w K mg base 2 f fd ["_law_thing"] spWho := by
  refine fn_pure F scPath (fun ds ⟨d, e, _⟩ => by rw [e]; rfl) fun cdv A outer s H hr hg w' ds μ ⟨d, e, hd⟩ => ?_
  subst e
  have ho := hd.notObj
  obtain ⟨t1, t2, t3, t4, t5, t6, t7, t8, t9, t10, t11, t12, t13, t14, t15, t16, t17, t18⟩ := T
  have hN : (["_law_thing", "_law_place"] : List Str).Nodup := by decide +kernel
  refine dss_cons ?_
  cases d with
  | tup xs =>
    cases xs with
    | nil =>
      walk_at "drun"
      exact ⟨_, rfl, ⟨_, rfl, rfl⟩, Mus.Sub.refl _⟩
    | cons d ds =>
      have hx := hd.tup
      have hfd := hx.2 d List.mem_cons_self
      have hl := hx.1
      rw [List.length_cons] at hl
      walk_at "drun"
      refine ix_dT (atI_head d ds) ?_
      walk_at "drun"
      · rename_i h1 h2 h3
        refine ⟨_, rfl, ⟨_, rfl, ?_⟩, Mus.Sub.refl _⟩
        have h3' : nameD d = false := by simpa using h3
        simp [whoD, h3']
      · rename_i h1 h2 h3
        have h3' : nameD d = true := by simpa using h3
        refine de_lc 1 rfl hN (blkOk_by (N := ["_law_thing", "_law_place"]) (sc := defScope sPath) (by decide +kernel)) ?_
        refine di_tup ?_
        walk_at "drun"
        rw [cut_tail]
        refine ⟨_, rfl, lc_map (fun d => .bl (inD 0 11 d)) (by omega) ?_ ?_⟩
        · intro d' hd' w' k
          have hf' := hx.2 d' (List.mem_cons_of_mem _ hd')
          walk_at "drun"
          refine ⟨_, rfl, ⟨_, _, _, rfl, hf'⟩, ?_⟩
          rintro _ ⟨_, _, _, e, rfl⟩
          cases e
          exact ⟨rfl, rfl⟩
        · walk_at "drun"
          refine ca_all rfl (bs := ds.map (inD 0 11)) (.inl (by rw [List.map_map]; rfl)) ?_
          refine ⟨_, rfl, ⟨_, rfl, ?_⟩, Mus.Sub.refl _⟩
          simp [whoD, h3', List.all_map]
  | obj _ _ _ => exact Bool.noConfusion ho
  | _ =>
    walk_at "drun"
    all_goals exact ⟨_, rfl, ⟨_, rfl, rfl⟩, Mus.Sub.refl _⟩
/-! ### the law's look at lots -/
def pm : List Int → Int
  | [] => -1
  | a :: as => max a (pm as)
theorem pm_app : ∀ (as : List Int) (b : Int), pm (as ++ [b]) = max (pm as) (max b (-1))
  | [], b => by simp [pm]; omega
  | a :: as, b => by
    rw [List.cons_append, pm, pm, pm_app as b]
    omega
theorem pm_ge : ∀ (as : List Int) (y : Int), y ∈ -1 :: as → y ≤ pm as
  | [], y, h => by simp at h; simp [pm, h]
  | a :: as, y, h => by
    have h1 := pm_ge as (-1) List.mem_cons_self
    rw [pm]
    rcases List.mem_cons.mp h with rfl | h
    · omega
    · rcases List.mem_cons.mp h with rfl | h
      · omega
      · have := pm_ge as y (List.mem_cons_of_mem _ h)
        omega
theorem pm_mem : ∀ as : List Int, pm as ∈ -1 :: as
  | [] => by simp [pm]
  | a :: as => by
    have h := pm_mem as
    rw [pm]
    rcases Int.le_total a (pm as) with g | g
    · rw [Int.max_eq_right g]
      rcases List.mem_cons.mp h with e | e
      · rw [e]; exact List.mem_cons_self
      · exact List.mem_cons_of_mem _ (List.mem_cons_of_mem _ e)
    · rw [Int.max_eq_left g]
      exact List.mem_cons_of_mem _ List.mem_cons_self
theorem pm_uniq {as : List Int} {m : Int} (h1 : m ∈ -1 :: as) (h2 : ∀ y, y ∈ -1 :: as → y ≤ m) : m = pm as :=
  Int.le_antisymm (pm_ge as m h1) (h2 _ (pm_mem as))
theorem go_iff : ∀ (l pre : List Int), (∀ y, y ∈ pre → 0 ≤ y) → (lotsGo (pm pre + 1) (l.map Dt.int) = true ↔ ∀ k a, l[k]? = some a → 0 ≤ a ∧ a ≤ pm (pre ++ l.take k) + 1)
  | [], pre, _ => by simp [lotsGo]
  | a :: l, pre, hp => by
    rw [List.map_cons, lotsGo, Bool.and_eq_true, Bool.and_eq_true, decide_eq_true_eq, decide_eq_true_eq]
    have step : ∀ (h : 0 ≤ a), max (pm pre + 1) (a + 1) = pm (pre ++ [a]) + 1 := by
      intro h
      rw [pm_app]
      omega
    constructor
    · rintro ⟨⟨h1, h2⟩, h3⟩ k b hb
      cases k with
      | zero =>
        cases hb
        simpa using ⟨h1, h2⟩
      | succ k =>
        rw [step h1] at h3
        have := (go_iff l (pre ++ [a]) (by
          intro y hy
          rcases List.mem_append.mp hy with e | e
          · exact hp y e
          · rw [List.mem_singleton.mp e]; exact h1)).mp h3 k b hb
        rw [List.take_succ_cons]
        simpa using this
    · intro h
      have h0 := h 0 a rfl
      have h1 : 0 ≤ a := h0.1
      refine ⟨⟨h1, by simpa using h0.2⟩, ?_⟩
      rw [step h1]
      refine (go_iff l (pre ++ [a]) (by
          intro y hy
          rcases List.mem_append.mp hy with e | e
          · exact hp y e
          · rw [List.mem_singleton.mp e]; exact h1)).mpr fun k b hb => ?_
      have := h (k + 1) b hb
      rw [List.take_succ_cons] at this
      simpa using this
theorem go_in : ∀ (xs : List Dt) (f : Int), lotsGo f xs = true → ∃ l : List Int, xs = l.map Dt.int ∧ ∀ (k : Nat) (a : Int), l[k]? = some a → 0 ≤ a ∧ a ≤ f + (k : Int)
  | [], f, _ => ⟨[], rfl, nofun⟩
  | d :: xs, f, h => by
    cases d with
    | int n =>
      rw [lotsGo, Bool.and_eq_true, Bool.and_eq_true, decide_eq_true_eq, decide_eq_true_eq] at h
      obtain ⟨⟨h1, h2⟩, h3⟩ := h
      obtain ⟨l, rfl, h4⟩ := go_in xs _ h3
      refine ⟨n :: l, rfl, fun k a hk => ?_⟩
      cases k with
      | zero => cases hk; simpa using ⟨h1, h2⟩
      | succ k =>
        have := h4 k a hk
        omega
    | _ => simp [lotsGo] at h
theorem in_ints : ∀ xs : List Dt, xs.all (inD 0 5) = true → ∃ l : List Int, xs = l.map Dt.int ∧ ∀ a ∈ l, 0 ≤ a
  | [], _ => ⟨[], rfl, nofun⟩
  | d :: xs, h => by
    rw [List.all_cons, Bool.and_eq_true] at h
    obtain ⟨l, rfl, h2⟩ := in_ints xs h.2
    cases d with
    | int n =>
      refine ⟨n :: l, rfl, ?_⟩
      have := h.1
      simp [inD] at this
      intro a ha
      rcases List.mem_cons.mp ha with rfl | e
      · exact this.1
      · exact h2 a e
    | _ => simp [inD] at h
theorem lots_in {xs : List Dt} (h6 : xs.length ≤ 6) (h : lotsGo 0 xs = true) : xs.all (inD 0 5) = true := by
  obtain ⟨l, rfl, h2⟩ := go_in xs 0 h
  rw [List.all_map, List.all_eq_true]
  intro a ha
  obtain ⟨k, hk, rfl⟩ := List.getElem_of_mem ha
  have := h2 k _ (List.getElem?_eq_getElem hk)
  rw [List.length_map] at h6
  simp [inD]
  omega
def lotG (l : List Int) : Dt → Bool
  | .int k => decide (l.getD k.toNat 0 ≤ pm (l.take k.toNat) + 1)
  | _ => false
theorem lots_all (l : List Int) (h0 : ∀ a ∈ l, 0 ≤ a) : ((upto 0 l.length).map (lotG l)).all id = lotsGo 0 (l.map Dt.int) := by
  have e := go_iff l [] nofun
  rw [Bool.eq_iff_iff]
  refine Iff.trans ?_ e.symm
  unfold upto
  rw [List.map_map, List.all_map, List.all_eq_true]
  constructor
  · intro h k a hk
    have hl : k < l.length := (List.getElem?_eq_some_iff.mp hk).1
    have := h k (List.mem_range.mpr hl)
    simp only [Function.comp, lotG, id, decide_eq_true_eq] at this
    have e2 : (0 + (k : Int)).toNat = k := by omega
    rw [e2, List.getD_eq_getElem?_getD, hk] at this
    exact ⟨h0 a (List.mem_of_getElem? hk), this⟩
  · intro h k hk
    have hl := List.mem_range.mp hk
    have := (h k _ (List.getElem?_eq_getElem hl)).2
    simp only [Function.comp, lotG, id, decide_eq_true_eq]
    have e2 : (0 + (k : Int)).toNat = k := by omega
    rw [e2, List.getD_eq_getElem?_getD, List.getElem?_eq_getElem hl]
    exact this
abbrev sLLots : Stmt := top 19
theorem scLLots : FnScope ["_law_thing", "_law_one", "_law_k"] ["_law_thing"] (defScope sLLots) := ⟨rfl, rfl, rfl, by decide +kernel, rfl, by decide +kernel, by decide +kernel⟩
theorem ok_llots {f : Addr} {fd : FuncData} (F : Fun K "_law_are_lots" "_law_are_lots" sLLots f fd) (T : Txt mg) (oInl : Own P w K mg base "_law_is_whole" 1 spInl) : FnG P w K mg base 2 f fd ["_law_thing"] spLots := by
  refine fn_pure F scLLots (fun ds ⟨d, e, _⟩ => by rw [e]; rfl) fun cdv A outer s H hr hg w' ds μ ⟨d, e, hd⟩ => ?_
  subst e
  have ho := hd.notObj
  obtain ⟨t1, t2, t3, t4, t5, t6, t7, t8, t9, t10, t11, t12, t13, t14, t15, t16, t17, t18⟩ := T
  have hN : (["_law_thing", "_law_one", "_law_k"] : List Str).Nodup := by decide +kernel
  refine dss_cons ?_
  cases d with
  | tup xs =>
    have hx := hd.tup
    walk_at "drun"
    · rename_i h1 h2 h3
      refine ⟨_, rfl, ⟨_, rfl, ?_⟩, Mus.Sub.refl _⟩
      have : ¬ xs.length ≤ 6 := by have := of_decide_eq_true h2; omega
      simp [lotsD, this]
    · rename_i h1 h2
      have h6 : xs.length ≤ 6 := by have := of_decide_eq_false h2; omega
      refine de_lc 1 rfl hN (blkOk_by (N := ["_law_thing", "_law_one", "_law_k"]) (sc := defScope sLLots) (by decide +kernel)) ?_
      refine di_tup ?_
      walk_at "drun"
      refine ⟨_, rfl, lc_map (fun d => .bl (inD 0 5 d)) (by omega) ?_ ?_⟩
      · intro d' hd' w' k
        have hf' := hx.2 d' hd'
        walk_at "drun"
        refine ⟨_, rfl, ⟨_, _, _, rfl, hf'⟩, ?_⟩
        rintro _ ⟨_, _, _, e, rfl⟩
        cases e
        exact ⟨rfl, rfl⟩
      · walk_at "drun"
        refine ca_all rfl (bs := xs.map (inD 0 5)) (.inl (by rw [List.map_map]; rfl)) ?_
        rw [List.all_map]
        walk_at "drun"
        · rename_i h3
          refine ⟨_, rfl, ⟨_, rfl, ?_⟩, Mus.Sub.refl _⟩
          have h4 : ¬ lotsGo 0 xs = true := fun g => by
            have := lots_in h6 g
            simp at h3 this
            obtain ⟨x, hx1, hx2⟩ := h3
            rw [this x hx1] at hx2
            cases hx2
          simp [lotsD, h4]
        · rename_i h3
          have h3' : xs.all (inD 0 5) = true := by simpa using h3
          obtain ⟨l, rfl, h0⟩ := in_ints xs h3'
          rw [List.length_map] at h6
          refine de_lc 2 rfl hN (blkOk_by (N := ["_law_thing", "_law_one", "_law_k"]) (sc := defScope sLLots) (by decide +kernel)) ?_
          refine di_range1 ?_ t12
          walk_at "drun"
          have el : (List.map Dt.int l).length = l.length := List.length_map _
          refine ⟨_, rfl, by omega, by omega, ?_⟩
          rw [Int.toNat_natCast, el]
          have hu : (upto 0 l.length).length = l.length := by simp [upto]
          refine lc_map (fun d => .bl (lotG l d)) (by omega) ?_ ?_
          · intro d' hd' w' k
            obtain ⟨m, hm, rfl⟩ := List.mem_map.mp hd'
            have hm' := List.mem_range.mp hm
            have em : (0 : Int) + (m : Int) = m := by omega
            rw [em]
            walk_at "drun"
            refine ix_dT (atI_nat _ m (.int l[m]) (by rw [List.getElem?_map, List.getElem?_eq_getElem hm']; rfl)) ?_
            walk_at "drun"
            rw [cut_to _ _ (by rw [List.length_map]; omega), ← List.map_take]
            refine op_addL (.inl rfl) (.inl rfl) (small_ok (by simp; omega)) ?_
            walk_at "drun"
            refine ca_maxL rfl (ns := -1 :: l.take m) (.inl rfl) (by simp) ?_
            intro z hz1 hz2
            rw [pm_uniq hz1 hz2]
            walk_at "drun"
            refine ⟨?_, rfl⟩
            simp [lotG, List.getElem?_eq_getElem hm']
          · walk_at "drun"
            refine ca_all rfl (bs := (upto 0 l.length).map (lotG l)) (.inl (by rw [List.map_map]; rfl)) ?_
            rw [lots_all l h0]
            refine ⟨_, rfl, ⟨_, rfl, ?_⟩, Mus.Sub.refl _⟩
            simp [lotsD, h6]
  | obj _ _ _ => exact Bool.noConfusion ho
  | _ =>
    walk_at "drun"
    all_goals exact ⟨_, rfl, ⟨_, rfl, rfl⟩, Mus.Sub.refl _⟩
end
end K11

set_option Elab.async false
set_option linter.all false
set_option maxRecDepth 100000
set_option maxHeartbeats 4000000
namespace K11
open PySem PySem.Spec PyProof.Rows L2 Dat
local macro_rules
  | `(tactic| walk_at "down") => `(tactic| fail "none")
local macro_rules
  | `(tactic| walk_at "dset") => `(tactic| fail "none")
local macro_rules
  | `(tactic| walk_at "dhook") => `(tactic| fail "none")
local macro_rules
  | `(tactic| walk_at "dca") => `(tactic| fail "none")
local macro_rules
  | `(tactic| walk_at "dlst") => `(tactic| refine de_lst ?_)
local macro_rules
  | `(tactic| walk_at "dstep") => `(tactic| first
    | ((with_reducible show DE _ _ _ _ _ _); first | ((with_reducible show DE _ _ (Expr.Name _ _) _ _ _); first | ((with_reducible show DE _ _ (Expr.Name "int" _) _ _ _); refine de_ty_int (by assumption) ?_) | ((with_reducible show DE _ _ (Expr.Name "str" _) _ _ _); refine de_ty_str (by assumption) ?_) | ((with_reducible show DE _ _ (Expr.Name "bool" _) _ _ _); refine de_ty_bool (by assumption) ?_) | ((with_reducible show DE _ _ (Expr.Name "tuple" _) _ _ _); refine de_ty_tuple (by assumption) ?_) | ((with_reducible show DE _ _ (Expr.Name "list" _) _ _ _); refine de_ty_list (by assumption) ?_) | ((with_reducible show DE _ _ (Expr.Name "dict" _) _ _ _); refine de_ty_dict (by assumption) ?_) | refine de_nm rfl ?_ | refine de_globI (by assumption) ?_) | ((with_reducible show DE _ _ (Expr.Constant _ _ _) _ _ _); first | refine de_int ?_ | refine de_str ?_ | refine de_bl ?_ | refine de_non ?_) | ((with_reducible show DE _ _ (Expr.Call (Expr.Name _ _) _ _ _) _ _ _); first | ((with_reducible show DE _ _ (Expr.Call (Expr.Name "isinstance" _) _ _ _) _ _ _); refine de_isinstance ?_ (by assumption)) | ((with_reducible show DE _ _ (Expr.Call (Expr.Name "len" _) _ _ _) _ _ _); refine de_len ?_ (by assumption)) | ((with_reducible show DE _ _ (Expr.Call (Expr.Name "max" _) _ _ _) _ _ _); refine de_max ?_ (by assumption)) | ((with_reducible show DE _ _ (Expr.Call (Expr.Name "min" _) _ _ _) _ _ _); refine de_min ?_ (by assumption)) | ((with_reducible show DE _ _ (Expr.Call (Expr.Name "all" _) _ _ _) _ _ _); refine de_all ?_ (by assumption)) | ((with_reducible show DE _ _ (Expr.Call (Expr.Name "repr" _) _ _ _) _ _ _); refine de_repr ?_ (by assumption)) | ((with_reducible show DE _ _ (Expr.Call (Expr.Name "divmod" _) _ _ _) _ _ _); refine de_divmod ?_ (by assumption)) | ((with_reducible show DE _ _ (Expr.Call (Expr.Name "list" _) _ _ _) _ _ _); refine de_clist ?_ (by assumption)) | ((with_reducible show DE _ _ (Expr.Call (Expr.Name "tuple" _) _ _ _) _ _ _); refine de_ctuple ?_ (by assumption)) | walk_at "down") | ((with_reducible show DE _ _ (Expr.BinOp _ _ _ _) _ _ _); refine de_op ?_) | ((with_reducible show DE _ _ (Expr.Compare _ [_] _ _) _ _ _); refine de_cmp ?_) | ((with_reducible show DE _ _ (Expr.Compare _ [_, _] _ _) _ _ _); refine de_chain ?_) | ((with_reducible show DE _ _ (Expr.Subscript _ (Expr.Slice _ _ _ _) _) _ _ _); refine de_slice ?_) | ((with_reducible show DE _ _ (Expr.Subscript _ _ _) _ _ _); refine de_ix ?_) | ((with_reducible show DE _ _ (Expr.BoolOp _ [_] _) _ _ _); refine de_one ?_) | ((with_reducible show DE _ _ (Expr.BoolOp BoolOp.And _ _) _ _ _); refine de_and ?_) | ((with_reducible show DE _ _ (Expr.BoolOp BoolOp.Or _ _) _ _ _); refine de_or ?_) | ((with_reducible show DE _ _ (Expr.UnaryOp UnaryOp.Not _ _) _ _ _); refine de_not ?_) | ((with_reducible show DE _ _ (Expr.UnaryOp _ _ _) _ _ _); refine de_un ?_) | ((with_reducible show DE _ _ (Expr.IfExp _ _ _ _) _ _ _); refine de_ifx ?_) | ((with_reducible show DE _ _ (Expr.Tuple _ _ _) _ _ _); refine de_tup ?_) | ((with_reducible show DE _ _ (Expr.List _ _) _ _ _); walk_at "dlst") | walk_at "dhook")
    | ((with_reducible show DA _ _ _ _ _ _); first | ((with_reducible show DA _ _ [] _ _ _); refine da_nil ?_) | ((with_reducible show DA _ _ (_ :: _) _ _ _); refine da_cons ?_))
    | ((with_reducible show BoolR _ _); refine ⟨_, rfl, ?_⟩)
    | ((with_reducible show (_ = true → _) ∧ (_ = false → _)); (refine ⟨fun h => ?_, fun h => ?_⟩ <;> try (exact Bool.noConfusion h)))
    | ((with_reducible show OpD _ _ _ _ _ _ _); first | ((with_reducible show OpD _ _ (binaryOp Operator.Add) _ _ _ _); first | refine op_addI ?_ | refine op_addT ?_) | ((with_reducible show OpD _ _ (binaryOp Operator.Sub) _ _ _ _); refine op_subI ?_) | ((with_reducible show OpD _ _ (binaryOp Operator.Mod) _ _ _ _); refine op_modI (by first | decide | assumption) ?_) | ((with_reducible show OpD _ _ (binaryOp Operator.Mult) _ _ _ _); refine op_mulI (by first | exact .inr (by decide) | exact .inl (by decide) | (exact .inl (by omega))) ?_) | ((with_reducible show OpD _ _ (binaryOp Operator.Pow) _ _ _ _); refine op_powI (by decide) (by decide) (by decide) ?_) | ((with_reducible show OpD _ _ (binaryOp Operator.FloorDiv) _ _ _ _); refine op_fdivI (by decide) (by decide) ?_) | ((with_reducible show OpD _ _ (compareOp CmpOp.Lt) _ _ _ _); refine op_ltI ?_) | ((with_reducible show OpD _ _ (compareOp CmpOp.LtE) _ _ _ _); first | refine op_leI ?_ | refine op_leS ?_) | ((with_reducible show OpD _ _ (compareOp CmpOp.Gt) _ _ _ _); refine op_gtI ?_) | ((with_reducible show OpD _ _ (compareOp CmpOp.GtE) _ _ _ _); refine op_geI ?_) | ((with_reducible show OpD _ _ (compareOp CmpOp.Eq) _ _ _ _); first | refine op_eqI ?_ | refine op_eqS ?_) | ((with_reducible show OpD _ _ (compareOp CmpOp.NotEq) _ _ _ _); first | refine op_neI ?_ | refine op_neS ?_))
    | ((with_reducible show CaD _ _ _ _ _ _); first | ((with_reducible show CaD _ _ (Value.builtin "isinstance") [_, SV.ty "int"] _ _); refine ca_isi (by assumption) (kit_int _ (by assumption)) ?_) | ((with_reducible show CaD _ _ (Value.builtin "isinstance") [_, SV.ty "bool"] _ _); refine ca_isi (by assumption) (kit_bool _ (by assumption)) ?_) | ((with_reducible show CaD _ _ (Value.builtin "isinstance") [_, SV.ty "str"] _ _); refine ca_isi (by assumption) (kit_str _ (by assumption)) ?_) | ((with_reducible show CaD _ _ (Value.builtin "isinstance") [_, SV.ty "tuple"] _ _); refine ca_isi (by assumption) (kit_tuple _ (by assumption)) ?_) | ((with_reducible show CaD _ _ (Value.builtin "isinstance") [_, SV.ty "list"] _ _); refine ca_isi (by assumption) (kit_list _ (by assumption)) ?_) | ((with_reducible show CaD _ _ (Value.builtin "isinstance") [_, SV.ty "dict"] _ _); refine ca_isi (by assumption) (kit_dict _ (by assumption)) ?_) | ((with_reducible show CaD _ _ (Value.builtin "max") _ _ _); refine ca_max2 rfl ?_) | ((with_reducible show CaD _ _ (Value.builtin "min") _ _ _); refine ca_min2 rfl ?_) | ((with_reducible show CaD _ _ (Value.builtin "len") _ _ _); first | refine ca_lenT ?_ | refine ca_lenS (by assumption) ?_ | refine ca_lenSc ?_ | refine ca_lenL (.inl rfl) ?_) | ((with_reducible show CaD _ _ (Value.type "list") _ _ _); refine ca_listT ?_) | walk_at "dca")
    | ((with_reducible show DT _ _ _ _ _ _); first | ((with_reducible show DT _ _ (Expr.BoolOp _ _ _) _ _ _); refine dt_w ?_) | ((with_reducible show DT _ _ (Expr.UnaryOp UnaryOp.Not _ _) _ _ _); refine dt_not ?_) | ((with_reducible show DT _ _ (Expr.Compare _ [_] _ _) _ _ _); refine dt_cmp ?_) | ((with_reducible show DT _ _ (Expr.Compare _ [_, _] _ _) _ _ _); refine dt_chain ?_) | refine dt_val ?_)
    | ((with_reducible show DW _ _ _ _ _ _); first | ((with_reducible show DW _ _ (Expr.BoolOp BoolOp.And [_] _) _ _ _); refine dw_and1 ?_) | ((with_reducible show DW _ _ (Expr.BoolOp BoolOp.Or [_] _) _ _ _); refine dw_or1 ?_) | ((with_reducible show DW _ _ (Expr.BoolOp BoolOp.And _ _) _ _ _); refine dw_and ?_) | ((with_reducible show DW _ _ (Expr.BoolOp BoolOp.Or _ _) _ _ _); refine dw_or ?_))
    | ((with_reducible show DSs _ _ _ _ _ _); first | ((with_reducible show DSs _ _ [] _ _ _); refine dss_nil ?_) | ((with_reducible show DSs _ _ [_] _ _ _); refine dss_one ?_) | ((with_reducible show DSs _ _ (_ :: _) _ _ _); refine dss_cons ?_))
    | ((with_reducible show DS _ _ _ _ _ _); first | ((with_reducible show DS _ _ (Stmt.Return (some _) _) _ _ _); refine ds_ret ?_) | ((with_reducible show DS _ _ (Stmt.If _ _ _ _) _ _ _); refine ds_if ?_) | ((with_reducible show DS _ _ (Stmt.Expr _ _) _ _ _); refine ds_expr ?_) | ((with_reducible show DS _ _ (Stmt.Assign [Expr.Name _ _] _ _) _ _ _); walk_at "dset"))
    | ((with_reducible show DP _ _ none _ _ _); refine dp_none ?_)
    | ((with_reducible show DP _ _ (some _) _ _ _); refine dp_some ?_)
    | ((with_reducible show ∃ d, SV.dat _ = SV.dat d ∧ Fi d ∧ _); refine ⟨_, rfl, by assumption, ?_⟩)
    | ((with_reducible show ∃ i, SV.dat (Dt.int _) = SV.dat (Dt.int i) ∧ _); refine ⟨_, rfl, ?_⟩)
    | ((with_reducible show SlD _ _ (SV.dat (Dt.tup _)) _ _ _ _); refine sl_dT ?_)
    | ((with_reducible show ∃ ds, undat _ = some ds ∧ ds.length ≤ 1000 ∧ _); refine ⟨_, rfl, Nat.le_of_ble_eq_true rfl, ?_⟩)
    | ((with_reducible show ∃ q, SV.at _ = SV.at q ∧ _); refine ⟨_, rfl, ?_⟩)
    | ((with_reducible show ∃ z, SV.dat (Dt.str _) = SV.dat (Dt.str z) ∧ _); refine ⟨_, rfl, ?_⟩)
    | ((with_reducible show UnD _ _ (unaryOp UnaryOp.USub) _ _ _); refine un_negI ?_)
    | ((with_reducible show Po.nx _ _ _); dsimp only)
    | ((with_reducible show Po.rt _ _ _); dsimp only))
local macro_rules
  | `(tactic| walk_at "drun") => `(tactic| repeat' (walk_at "dstep"))

/-! ### what is looked at -/
def Good (d : Dt) : Prop := fine 64 30 3 d ∧ (hasDic d = true → hasLst d = false)
theorem Good.fi {d : Dt} (h : Good d) : Fi d := ⟨3, h.1⟩
theorem Good.shown {d : Dt} (h : Good d) : Shown d := fine_shown h.1 (by decide) (by decide) h.2
def triD (d : Dt) : Dt := .lst [.bl (nameD d), .bl (lotsD d), .bl (whoD d)]
theorem tri_shown (d : Dt) : Shown (triD d) := by
  refine fine_shown (S := 64) (M := 30) (n := 1) ⟨Nat.le_of_ble_eq_true rfl, fun e he => ?_⟩ (by decide) (by decide) fun h => by simp [triD, hasDic, hasDicA] at h
  simp only [List.mem_cons, List.not_mem_nil, or_false] at he
  rcases he with rfl | rfl | rfl <;> exact fine_bl _
def spJudged : Sp := PSp (ok1 Fi) (re1 fun d => .str (toPy (triD d)).shown)
def spRight : Sp := PSp (ok1 Good) (re1 fun _ => .bl true)
set_option hygiene false in
local macro_rules
  | `(tactic| walk_at "down") => `(tactic| first | ((with_reducible show DE _ _ (Expr.Call (Expr.Name "_law_is_label" _) _ _ _) _ _ _); refine de_p1 oLabel hr (by decide) hg ?_) | ((with_reducible show DE _ _ (Expr.Call (Expr.Name "_law_are_lots" _) _ _ _) _ _ _); refine de_p1 oLLots hr (by decide) hg ?_)  | ((with_reducible show DE _ _ (Expr.Call (Expr.Name "_law_is_path" _) _ _ _) _ _ _); refine de_p1 oPath hr (by decide) hg ?_) | ((with_reducible show DE _ _ (Expr.Call (Expr.Name "is_name" _) _ _ _) _ _ _); refine de_p1 oName hr (by decide) hg ?_) | ((with_reducible show DE _ _ (Expr.Call (Expr.Name "is_lots" _) _ _ _) _ _ _); refine de_p1 oLots hr (by decide) hg ?_)  | ((with_reducible show DE _ _ (Expr.Call (Expr.Name "is_who" _) _ _ _) _ _ _); refine de_p1 oWho hr (by decide) hg ?_) | ((with_reducible show DE _ _ (Expr.Call (Expr.Name "_law_judged" _) _ _ _) _ _ _); refine de_p1 oJudged hr (by decide) hg ?_))
section
variable {P : Program} {w : World} {K : PySem.W.Frag} {mg : Str → Option Value} {base : Heap}
abbrev sJudged : Stmt := top 24
theorem scJudged : FnScope ["_law_thing"] ["_law_thing"] (defScope sJudged) := ⟨rfl, rfl, rfl, by decide +kernel, rfl, by decide +kernel, by decide +kernel⟩
theorem ok_judged {f : Addr} {fd : FuncData} (F : Fun K "_law_judged" "_law_judged" sJudged f fd) (T : Txt mg) (oLabel : Own P w K mg base "_law_is_label" 1 spName) (oLLots : Own P w K mg base "_law_are_lots" 2 spLots) (oPath : Own P w K mg base "_law_is_path" 2 spWho) : FnG P w K mg base 3 f fd ["_law_thing"] spJudged := by
  refine fn_pure F scJudged (fun ds ⟨d, e, _⟩ => by rw [e]; rfl) fun cdv A outer s H hr hg w' ds μ ⟨d, e, hd⟩ => ?_
  subst e
  obtain ⟨t1, t2, t3, t4, t5, t6, t7, t8, t9, t10, t11, t12, t13, t14, t15, t16, t17, t18⟩ := T
  refine dss_one ?_
  walk_at "drun"
  refine ca_repr hr hg (tri_shown d) ?_
  exact ⟨_, rfl, ⟨_, rfl, rfl⟩, Mus.Sub.refl _⟩
abbrev sRight : Stmt := top 25
theorem scRight : FnScope ["_law_thing", "_law_kept", "_law_turn"] ["_law_thing"] (defScope sRight) := ⟨rfl, rfl, rfl, by decide +kernel, rfl, by decide +kernel, by decide +kernel⟩
set_option hygiene false in
local macro_rules
  | `(tactic| walk_at "dset") => `(tactic| refine ds_set 1 hN ?_)
theorem ok_right {f : Addr} {fd : FuncData} (F : Fun K "_law_right" "_law_right" sRight f fd) (T : Txt mg) (oName : Own P w K mg base "is_name" 1 spName) (oLots : Own P w K mg base "is_lots" 2 spLots) (oWho : Own P w K mg base "is_who" 3 spWho) (oJudged : Own P w K mg base "_law_judged" 3 spJudged) : FnG P w K mg base 4 f fd ["_law_thing"] spRight := by
  refine fn_pure F scRight (fun ds ⟨d, e, _⟩ => by rw [e]; rfl) fun cdv A outer s H hr hg w' ds μ ⟨d, e, hd⟩ => ?_
  subst e
  obtain ⟨t1, t2, t3, t4, t5, t6, t7, t8, t9, t10, t11, t12, t13, t14, t15, t16, t17, t18⟩ := T
  have hN : (["_law_thing", "_law_kept", "_law_turn"] : List Str).Nodup := by decide +kernel
  have hf := hd.fi
  refine dss_cons ?_
  walk_at "drun"
  refine ca_repr hr hg hd.shown ?_
  walk_at "drun"
  refine ds_for (di_range1 ?_ t12) PassesOwn.never rfl
  walk_at "drun"
  refine ⟨2, rfl, by decide, by decide, fun n ρ' μ' => μ' = μ ∧ ∃ a : SV, ρ' = [.dat d, .dat (.str (toPy d).shown), a], ⟨rfl, .no, rfl⟩, ?_, ?_⟩
  · rintro n d' ρ' μ' hi ⟨rfl, a, rfl⟩
    refine dg_name 2 hN ?_
    refine dss_one ?_
    walk_at "drun"
    refine ca_repr hr hg (tri_shown d) ?_
    walk_at "drun"
    · rename_i h
      simp [triD] at h
    · exact ⟨rfl, _, rfl⟩
  · rintro ρ' μ' ⟨rfl, a, rfl⟩
    walk_at "drun"
    refine ca_repr hr hg hd.shown ?_
    walk_at "drun"
    refine ⟨_, rfl, ⟨_, rfl, ?_⟩, Mus.Sub.refl _⟩
    simp
end
end K11

set_option Elab.async false
set_option linter.all false
set_option maxRecDepth 100000
set_option maxHeartbeats 4000000
namespace K11
open PySem PySem.Spec PyProof.Rows L2 Dat
local macro_rules
  | `(tactic| walk_at "down") => `(tactic| fail "none")
local macro_rules
  | `(tactic| walk_at "dset") => `(tactic| fail "none")
local macro_rules
  | `(tactic| walk_at "dhook") => `(tactic| fail "none")
local macro_rules
  | `(tactic| walk_at "dca") => `(tactic| fail "none")
local macro_rules
  | `(tactic| walk_at "dlst") => `(tactic| refine de_lst ?_)
local macro_rules
  | `(tactic| walk_at "dstep") => `(tactic| first
    | ((with_reducible show DE _ _ _ _ _ _); first | ((with_reducible show DE _ _ (Expr.Name _ _) _ _ _); first | ((with_reducible show DE _ _ (Expr.Name "int" _) _ _ _); refine de_ty_int (by assumption) ?_) | ((with_reducible show DE _ _ (Expr.Name "str" _) _ _ _); refine de_ty_str (by assumption) ?_) | ((with_reducible show DE _ _ (Expr.Name "bool" _) _ _ _); refine de_ty_bool (by assumption) ?_) | ((with_reducible show DE _ _ (Expr.Name "tuple" _) _ _ _); refine de_ty_tuple (by assumption) ?_) | ((with_reducible show DE _ _ (Expr.Name "list" _) _ _ _); refine de_ty_list (by assumption) ?_) | ((with_reducible show DE _ _ (Expr.Name "dict" _) _ _ _); refine de_ty_dict (by assumption) ?_) | refine de_nm rfl ?_ | refine de_globI (by assumption) ?_) | ((with_reducible show DE _ _ (Expr.Constant _ _ _) _ _ _); first | refine de_int ?_ | refine de_str ?_ | refine de_bl ?_ | refine de_non ?_) | ((with_reducible show DE _ _ (Expr.Call (Expr.Name _ _) _ _ _) _ _ _); first | ((with_reducible show DE _ _ (Expr.Call (Expr.Name "isinstance" _) _ _ _) _ _ _); refine de_isinstance ?_ (by assumption)) | ((with_reducible show DE _ _ (Expr.Call (Expr.Name "len" _) _ _ _) _ _ _); refine de_len ?_ (by assumption)) | ((with_reducible show DE _ _ (Expr.Call (Expr.Name "max" _) _ _ _) _ _ _); refine de_max ?_ (by assumption)) | ((with_reducible show DE _ _ (Expr.Call (Expr.Name "min" _) _ _ _) _ _ _); refine de_min ?_ (by assumption)) | ((with_reducible show DE _ _ (Expr.Call (Expr.Name "all" _) _ _ _) _ _ _); refine de_all ?_ (by assumption)) | ((with_reducible show DE _ _ (Expr.Call (Expr.Name "repr" _) _ _ _) _ _ _); refine de_repr ?_ (by assumption)) | ((with_reducible show DE _ _ (Expr.Call (Expr.Name "divmod" _) _ _ _) _ _ _); refine de_divmod ?_ (by assumption)) | ((with_reducible show DE _ _ (Expr.Call (Expr.Name "list" _) _ _ _) _ _ _); refine de_clist ?_ (by assumption)) | ((with_reducible show DE _ _ (Expr.Call (Expr.Name "tuple" _) _ _ _) _ _ _); refine de_ctuple ?_ (by assumption)) | walk_at "down") | ((with_reducible show DE _ _ (Expr.BinOp _ _ _ _) _ _ _); refine de_op ?_) | ((with_reducible show DE _ _ (Expr.Compare _ [_] _ _) _ _ _); refine de_cmp ?_) | ((with_reducible show DE _ _ (Expr.Compare _ [_, _] _ _) _ _ _); refine de_chain ?_) | ((with_reducible show DE _ _ (Expr.Subscript _ (Expr.Slice _ _ _ _) _) _ _ _); refine de_slice ?_) | ((with_reducible show DE _ _ (Expr.Subscript _ _ _) _ _ _); refine de_ix ?_) | ((with_reducible show DE _ _ (Expr.BoolOp _ [_] _) _ _ _); refine de_one ?_) | ((with_reducible show DE _ _ (Expr.BoolOp BoolOp.And _ _) _ _ _); refine de_and ?_) | ((with_reducible show DE _ _ (Expr.BoolOp BoolOp.Or _ _) _ _ _); refine de_or ?_) | ((with_reducible show DE _ _ (Expr.UnaryOp UnaryOp.Not _ _) _ _ _); refine de_not ?_) | ((with_reducible show DE _ _ (Expr.UnaryOp _ _ _) _ _ _); refine de_un ?_) | ((with_reducible show DE _ _ (Expr.IfExp _ _ _ _) _ _ _); refine de_ifx ?_) | ((with_reducible show DE _ _ (Expr.Tuple _ _ _) _ _ _); refine de_tup ?_) | ((with_reducible show DE _ _ (Expr.List _ _) _ _ _); walk_at "dlst") | walk_at "dhook")
    | ((with_reducible show DA _ _ _ _ _ _); first | ((with_reducible show DA _ _ [] _ _ _); refine da_nil ?_) | ((with_reducible show DA _ _ (_ :: _) _ _ _); refine da_cons ?_))
    | ((with_reducible show BoolR _ _); refine ⟨_, rfl, ?_⟩)
    | ((with_reducible show (_ = true → _) ∧ (_ = false → _)); (refine ⟨fun h => ?_, fun h => ?_⟩ <;> try (exact Bool.noConfusion h)))
    | ((with_reducible show OpD _ _ _ _ _ _ _); first | ((with_reducible show OpD _ _ (binaryOp Operator.Add) _ _ _ _); first | refine op_addI ?_ | refine op_addT ?_) | ((with_reducible show OpD _ _ (binaryOp Operator.Sub) _ _ _ _); refine op_subI ?_) | ((with_reducible show OpD _ _ (binaryOp Operator.Mod) _ _ _ _); refine op_modI (by first | decide | assumption) ?_) | ((with_reducible show OpD _ _ (binaryOp Operator.Mult) _ _ _ _); refine op_mulI (by first | exact .inr (by decide) | exact .inl (by decide) | (exact .inl (by omega))) ?_) | ((with_reducible show OpD _ _ (binaryOp Operator.Pow) _ _ _ _); refine op_powI (by decide) (by decide) (by decide) ?_) | ((with_reducible show OpD _ _ (binaryOp Operator.FloorDiv) _ _ _ _); refine op_fdivI (by decide) (by decide) ?_) | ((with_reducible show OpD _ _ (compareOp CmpOp.Lt) _ _ _ _); refine op_ltI ?_) | ((with_reducible show OpD _ _ (compareOp CmpOp.LtE) _ _ _ _); first | refine op_leI ?_ | refine op_leS ?_) | ((with_reducible show OpD _ _ (compareOp CmpOp.Gt) _ _ _ _); refine op_gtI ?_) | ((with_reducible show OpD _ _ (compareOp CmpOp.GtE) _ _ _ _); refine op_geI ?_) | ((with_reducible show OpD _ _ (compareOp CmpOp.Eq) _ _ _ _); first | refine op_eqI ?_ | refine op_eqS ?_) | ((with_reducible show OpD _ _ (compareOp CmpOp.NotEq) _ _ _ _); first | refine op_neI ?_ | refine op_neS ?_))
    | ((with_reducible show CaD _ _ _ _ _ _); first | ((with_reducible show CaD _ _ (Value.builtin "isinstance") [_, SV.ty "int"] _ _); refine ca_isi (by assumption) (kit_int _ (by assumption)) ?_) | ((with_reducible show CaD _ _ (Value.builtin "isinstance") [_, SV.ty "bool"] _ _); refine ca_isi (by assumption) (kit_bool _ (by assumption)) ?_) | ((with_reducible show CaD _ _ (Value.builtin "isinstance") [_, SV.ty "str"] _ _); refine ca_isi (by assumption) (kit_str _ (by assumption)) ?_) | ((with_reducible show CaD _ _ (Value.builtin "isinstance") [_, SV.ty "tuple"] _ _); refine ca_isi (by assumption) (kit_tuple _ (by assumption)) ?_) | ((with_reducible show CaD _ _ (Value.builtin "isinstance") [_, SV.ty "list"] _ _); refine ca_isi (by assumption) (kit_list _ (by assumption)) ?_) | ((with_reducible show CaD _ _ (Value.builtin "isinstance") [_, SV.ty "dict"] _ _); refine ca_isi (by assumption) (kit_dict _ (by assumption)) ?_) | ((with_reducible show CaD _ _ (Value.builtin "max") _ _ _); refine ca_max2 rfl ?_) | ((with_reducible show CaD _ _ (Value.builtin "min") _ _ _); refine ca_min2 rfl ?_) | ((with_reducible show CaD _ _ (Value.builtin "len") _ _ _); first | refine ca_lenT ?_ | refine ca_lenS (by assumption) ?_ | refine ca_lenSc ?_ | refine ca_lenL (.inl rfl) ?_) | ((with_reducible show CaD _ _ (Value.type "list") _ _ _); refine ca_listT ?_) | ((with_reducible show CaD _ _ (Value.builtin "divmod") _ _ _); refine ca_divmod (by assumption) (by omega) ?_) | walk_at "dca")
    | ((with_reducible show DT _ _ _ _ _ _); first | ((with_reducible show DT _ _ (Expr.BoolOp _ _ _) _ _ _); refine dt_w ?_) | ((with_reducible show DT _ _ (Expr.UnaryOp UnaryOp.Not _ _) _ _ _); refine dt_not ?_) | ((with_reducible show DT _ _ (Expr.Compare _ [_] _ _) _ _ _); refine dt_cmp ?_) | ((with_reducible show DT _ _ (Expr.Compare _ [_, _] _ _) _ _ _); refine dt_chain ?_) | refine dt_val ?_)
    | ((with_reducible show DW _ _ _ _ _ _); first | ((with_reducible show DW _ _ (Expr.BoolOp BoolOp.And [_] _) _ _ _); refine dw_and1 ?_) | ((with_reducible show DW _ _ (Expr.BoolOp BoolOp.Or [_] _) _ _ _); refine dw_or1 ?_) | ((with_reducible show DW _ _ (Expr.BoolOp BoolOp.And _ _) _ _ _); refine dw_and ?_) | ((with_reducible show DW _ _ (Expr.BoolOp BoolOp.Or _ _) _ _ _); refine dw_or ?_))
    | ((with_reducible show DSs _ _ _ _ _ _); first | ((with_reducible show DSs _ _ [] _ _ _); refine dss_nil ?_) | ((with_reducible show DSs _ _ [_] _ _ _); refine dss_one ?_) | ((with_reducible show DSs _ _ (_ :: _) _ _ _); refine dss_cons ?_))
    | ((with_reducible show DS _ _ _ _ _ _); first | ((with_reducible show DS _ _ (Stmt.Return (some _) _) _ _ _); refine ds_ret ?_) | ((with_reducible show DS _ _ (Stmt.If _ _ _ _) _ _ _); refine ds_if ?_) | ((with_reducible show DS _ _ (Stmt.Expr _ _) _ _ _); refine ds_expr ?_) | ((with_reducible show DS _ _ (Stmt.Assign [Expr.Name _ _] _ _) _ _ _); walk_at "dset"))
    | ((with_reducible show DP _ _ none _ _ _); refine dp_none ?_)
    | ((with_reducible show DP _ _ (some _) _ _ _); refine dp_some ?_)
    | ((with_reducible show ∃ d, SV.dat _ = SV.dat d ∧ Fi d ∧ _); refine ⟨_, rfl, by assumption, ?_⟩)
    | ((with_reducible show ∃ i, SV.dat (Dt.int _) = SV.dat (Dt.int i) ∧ _); refine ⟨_, rfl, ?_⟩)
    | ((with_reducible show SlD _ _ (SV.dat (Dt.tup _)) _ _ _ _); refine sl_dT ?_)
    | ((with_reducible show ∃ ds, undat _ = some ds ∧ ds.length ≤ 1000 ∧ _); refine ⟨_, rfl, Nat.le_of_ble_eq_true rfl, ?_⟩)
    | ((with_reducible show ∃ q, SV.at _ = SV.at q ∧ _); refine ⟨_, rfl, ?_⟩)
    | ((with_reducible show ∃ z, SV.dat (Dt.str _) = SV.dat (Dt.str z) ∧ _); refine ⟨_, rfl, ?_⟩)
    | ((with_reducible show IxD _ _ (SV.at _) (SV.dat (Dt.int 0)) _ _); refine ix_pot0 (by assumption) (fun _ _ => ?_))
    | ((with_reducible show IxD _ _ (SV.at _) (SV.dat (Dt.int 1)) _ _); refine ix_pot1 (by assumption) (fun _ _ _ => ?_))
    | ((with_reducible show UnD _ _ (unaryOp UnaryOp.USub) _ _ _); refine un_negI ?_)
    | ((with_reducible show Po.nx _ _ _); dsimp only)
    | ((with_reducible show Po.rt _ _ _); dsimp only))
local macro_rules
  | `(tactic| walk_at "drun") => `(tactic| repeat' (walk_at "dstep"))

/-! ### the pot -/
def spPot (K : PySem.W.Frag) : Sp := GSp (fun rs _ => ∃ a ns k, rs = [.sc K a ns, .dat (.int k)] ∧ 0 ≤ k ∧ k ≤ 100 ∧ ns.length ≤ 1000) fun rs μ r μ' => ∃ p, r = .at p ∧ μ p = none ∧ μ' = μ.put p .pot
def okM (m : Int) : Prop := 0 < m ∧ m < 1000000
def spTake : Sp := QSp (fun ds => ∃ m, ds = [.int m] ∧ okM m) fun ds r => ∃ m v, ds = [.int m] ∧ r = .int v ∧ 0 ≤ v ∧ v < m
section
variable {X : Cx} {w : Wd} {ρ : List SV} {μ : Mus} {R : SV → Mus → Prop} {e e2 e3 : Expr} {es : List Expr} {x : Str} {p pos : Pos} {j k : Nat}
theorem de_take {x : Str} (O : Own X.prog X.w X.K X.mg X.base x k spTake) (hr : Room j X.A) (hkj : k ≤ j) (hgd : X.A.guards = some [])
    (ha : DE X w e ρ μ fun r μ1 => ∃ q, r = .at q ∧ DE X w e2 ρ μ1 fun r2 μ2 => ∃ m, r2 = .dat (.int m) ∧ μ2 q = some .pot ∧ okM m ∧ ∀ v, 0 ≤ v → v < m → R (.dat (.int v)) μ2) (hg : Gl X x := by rfl) (hdb : (x == ("__debug__" : Str)) = false := by decide)
    (he : starEach [e, e2] X.env = (false, eval e X.env) :: starEach [e2] X.env := by rfl) (he2 : starEach [e2] X.env = (false, eval e2 X.env) :: starEach [] X.env := by rfl) (hpl : (backTo pos (starEach [e2] X.env)).any (·.1) = false := by rfl) : DE X w (.Call (.Name x p) [e, e2] [] pos) ρ μ R :=
  de_pot O hr hkj hgd (da_cons (hs := he) (ha.imp fun r μ1 ⟨q, e1, h1⟩ => by
    subst e1
    exact da_cons (hs := he2) (h1.imp fun r2 μ2 ⟨m, e3, h2, h3, h4⟩ => by
      subst e3
      refine da_nil ⟨q, [.dat (.int m)], [.int m], rfl, rfl, h2, ⟨m, rfl, h3⟩, fun d ⟨m', v, e4, e5, h5, h6⟩ => ?_⟩
      cases e4
      subst e5
      exact h4 v h5 h6))) hg hdb he hpl
end
set_option hygiene false in
local macro_rules
  | `(tactic| walk_at "down") => `(tactic| first | ((with_reducible show DE _ _ (Expr.Call (Expr.Name "_law_take" _) _ _ _) _ _ _); refine de_take oTake hr (by decide) hg ?_))
section
variable {P : Program} {w : World} {K : PySem.W.Frag} {mg : Str → Option Value} {base : Heap}
abbrev sPot : Stmt := top 12
theorem scPot : FnScope ["_law_script", "_law_k", "_law_cell"] ["_law_script", "_law_k"] (defScope sPot) := ⟨rfl, rfl, rfl, by decide +kernel, rfl, by decide +kernel, by decide +kernel⟩
set_option hygiene false in
local macro_rules
  | `(tactic| walk_at "dset") => `(tactic| refine ds_set 2 hN ?_)
local macro_rules
  | `(tactic| walk_at "dlst") => `(tactic| refine de_lstPot ?_)
theorem ok_pot {f : Addr} {fd : FuncData} (F : Fun K "_law_pot" "_law_pot" sPot f fd) (T : Txt mg) : FnG P w K mg base 1 f fd ["_law_script", "_law_k"] (spPot K) := by
  refine fn_ok F scPot (fun rs μ ⟨a, ns, k, e, _⟩ => by rw [e]; rfl) fun cdv A outer s H hr hg w' rs μ ⟨a, ns, k, e, hk0, hk1, hns⟩ => ?_
  subst e
  obtain ⟨t1, t2, t3, t4, t5, t6, t7, t8, t9, t10, t11, t12, t13, t14, t15, t16, t17, t18⟩ := T
  have hN : (["_law_script", "_law_k", "_law_cell"] : List Str).Nodup := by decide +kernel
  have fin : ∀ c : Int, DSs (bx P w K mg base ["_law_script", "_law_k", "_law_cell"] "_law_pot" sPot f cdv A outer s H) w' ((defBody sPot).drop 1) [.sc K a ns, .dat (.int k), .dat (.int c)] μ
      { nx := fun x μ' => ∃ ν, ν.Sub μ' ∧ ∃ p, SV.dat Dt.non = SV.at p ∧ μ p = none ∧ ν = μ.put p .pot, rt := fun r μ' => ∃ ν, ν.Sub μ' ∧ ∃ p, r = SV.at p ∧ μ p = none ∧ ν = μ.put p .pot } := by
    intro c
    refine dss_one ?_
    walk_at "drun"
    refine ⟨_, _, rfl, ?_, ?_, ?_, fun p h1 _ => ⟨_, Mus.Sub.refl _, p, rfl, h1, rfl⟩⟩
    · omega
    · omega
    · omega
  refine dss_cons ?_
  walk_at "drun"
  · rename_i h
    have hk2 := of_decide_eq_true h
    refine ix_sc (n := ns[k.toNat]'(by omega)) ?_ ?_
    · unfold atI ixN
      rw [if_pos hk0, if_pos (by omega)]
      exact List.getElem?_eq_getElem _
    · exact fin _
  · refine ⟨_, _, rfl, ?_, ?_, ?_, fun p h1 _ => ⟨_, Mus.Sub.refl _, p, rfl, h1, rfl⟩⟩
    · omega
    · omega
    · omega
abbrev sTake : Stmt := top 13
theorem scTake : FnScope ["_law_pot_here", "_law_much", "_law_digit"] ["_law_pot_here", "_law_much"] (defScope sTake) := ⟨rfl, rfl, rfl, by decide +kernel, rfl, by decide +kernel, by decide +kernel⟩
theorem ok_take {f : Addr} {fd : FuncData} (F : Fun K "_law_take" "_law_take" sTake f fd) (T : Txt mg) : FnG P w K mg base 1 f fd ["_law_pot_here", "_law_much"] spTake := by
  refine fn_pot F scTake (fun ds ⟨m, e, _⟩ => by rw [e]; rfl) fun cdv A outer s H hr hg w' p ds μ hp ⟨m, e, hm0, hm1⟩ => ?_
  subst e
  obtain ⟨t1, t2, t3, t4, t5, t6, t7, t8, t9, t10, t11, t12, t13, t14, t15, t16, t17, t18⟩ := T
  have hN : (["_law_pot_here", "_law_much", "_law_digit"] : List Str).Nodup := by decide +kernel
  refine dss_cons ?_
  walk_at "drun"
  · rename_i a ha h
    refine ds_asg ?_
    walk_at "drun"
    rename_i a' ha'
    refine dg_tup rfl (dgs_cons (dg_pot ?_) rfl) rfl
    walk_at "drun"
    refine ⟨hp, .inl ⟨rfl, ?_⟩, ?_⟩
    · exact Int.ediv_nonneg ha' (Int.le_of_lt hm0)
    refine dgs_cons (dg_name 2 hN (dgs_nil ?_)) rfl
    walk_at "drun"
    exact ⟨_, rfl, ⟨m, _, rfl, rfl, Int.emod_nonneg _ (by omega), Int.emod_lt_of_pos _ hm0⟩, Mus.Sub.refl _⟩
  · rename_i a ha h
    refine ds_asg ?_
    walk_at "drun"
    refine dg_pot ?_
    walk_at "drun"
    refine ⟨hp, .inr ⟨rfl, ?_, ?_⟩, ?_⟩
    · omega
    · omega
    walk_at "drun"
    exact ⟨_, rfl, ⟨m, _, rfl, rfl, Int.emod_nonneg _ (by omega), Int.emod_lt_of_pos _ hm0⟩, Mus.Sub.refl _⟩
end
end K11

set_option Elab.async false
set_option linter.all false
set_option maxRecDepth 100000
set_option maxHeartbeats 4000000
namespace K11
open PySem PySem.Spec PyProof.Rows L2 Dat
local macro_rules
  | `(tactic| walk_at "down") => `(tactic| fail "none")
local macro_rules
  | `(tactic| walk_at "dset") => `(tactic| fail "none")
local macro_rules
  | `(tactic| walk_at "dhook") => `(tactic| fail "none")
local macro_rules
  | `(tactic| walk_at "dca") => `(tactic| fail "none")
local macro_rules
  | `(tactic| walk_at "dlst") => `(tactic| refine de_lst ?_)
local macro_rules
  | `(tactic| walk_at "dstep") => `(tactic| first
    | ((with_reducible show DE _ _ _ _ _ _); first | ((with_reducible show DE _ _ (Expr.Name _ _) _ _ _); first | ((with_reducible show DE _ _ (Expr.Name "int" _) _ _ _); refine de_ty_int (by assumption) ?_) | ((with_reducible show DE _ _ (Expr.Name "str" _) _ _ _); refine de_ty_str (by assumption) ?_) | ((with_reducible show DE _ _ (Expr.Name "bool" _) _ _ _); refine de_ty_bool (by assumption) ?_) | ((with_reducible show DE _ _ (Expr.Name "tuple" _) _ _ _); refine de_ty_tuple (by assumption) ?_) | ((with_reducible show DE _ _ (Expr.Name "list" _) _ _ _); refine de_ty_list (by assumption) ?_) | ((with_reducible show DE _ _ (Expr.Name "dict" _) _ _ _); refine de_ty_dict (by assumption) ?_) | refine de_nm rfl ?_ | refine de_globI (by assumption) ?_) | ((with_reducible show DE _ _ (Expr.Constant _ _ _) _ _ _); first | refine de_int ?_ | refine de_str ?_ | refine de_bl ?_ | refine de_non ?_) | ((with_reducible show DE _ _ (Expr.Call (Expr.Name _ _) _ _ _) _ _ _); first | ((with_reducible show DE _ _ (Expr.Call (Expr.Name "isinstance" _) _ _ _) _ _ _); refine de_isinstance ?_ (by assumption)) | ((with_reducible show DE _ _ (Expr.Call (Expr.Name "len" _) _ _ _) _ _ _); refine de_len ?_ (by assumption)) | ((with_reducible show DE _ _ (Expr.Call (Expr.Name "max" _) _ _ _) _ _ _); refine de_max ?_ (by assumption)) | ((with_reducible show DE _ _ (Expr.Call (Expr.Name "min" _) _ _ _) _ _ _); refine de_min ?_ (by assumption)) | ((with_reducible show DE _ _ (Expr.Call (Expr.Name "all" _) _ _ _) _ _ _); refine de_all ?_ (by assumption)) | ((with_reducible show DE _ _ (Expr.Call (Expr.Name "repr" _) _ _ _) _ _ _); refine de_repr ?_ (by assumption)) | ((with_reducible show DE _ _ (Expr.Call (Expr.Name "divmod" _) _ _ _) _ _ _); refine de_divmod ?_ (by assumption)) | ((with_reducible show DE _ _ (Expr.Call (Expr.Name "list" _) _ _ _) _ _ _); refine de_clist ?_ (by assumption)) | ((with_reducible show DE _ _ (Expr.Call (Expr.Name "tuple" _) _ _ _) _ _ _); refine de_ctuple ?_ (by assumption)) | walk_at "down") | ((with_reducible show DE _ _ (Expr.BinOp _ _ _ _) _ _ _); refine de_op ?_) | ((with_reducible show DE _ _ (Expr.Compare _ [_] _ _) _ _ _); refine de_cmp ?_) | ((with_reducible show DE _ _ (Expr.Compare _ [_, _] _ _) _ _ _); refine de_chain ?_) | ((with_reducible show DE _ _ (Expr.Subscript _ (Expr.Slice _ _ _ _) _) _ _ _); refine de_slice ?_) | ((with_reducible show DE _ _ (Expr.Subscript _ _ _) _ _ _); refine de_ix ?_) | ((with_reducible show DE _ _ (Expr.BoolOp _ [_] _) _ _ _); refine de_one ?_) | ((with_reducible show DE _ _ (Expr.BoolOp BoolOp.And _ _) _ _ _); refine de_and ?_) | ((with_reducible show DE _ _ (Expr.BoolOp BoolOp.Or _ _) _ _ _); refine de_or ?_) | ((with_reducible show DE _ _ (Expr.UnaryOp UnaryOp.Not _ _) _ _ _); refine de_not ?_) | ((with_reducible show DE _ _ (Expr.UnaryOp _ _ _) _ _ _); refine de_un ?_) | ((with_reducible show DE _ _ (Expr.IfExp _ _ _ _) _ _ _); refine de_ifx ?_) | ((with_reducible show DE _ _ (Expr.Tuple _ _ _) _ _ _); refine de_tup ?_) | ((with_reducible show DE _ _ (Expr.List _ _) _ _ _); walk_at "dlst") | walk_at "dhook")
    | ((with_reducible show DA _ _ _ _ _ _); first | ((with_reducible show DA _ _ [] _ _ _); refine da_nil ?_) | ((with_reducible show DA _ _ (_ :: _) _ _ _); refine da_cons ?_))
    | ((with_reducible show BoolR _ _); refine ⟨_, rfl, ?_⟩)
    | ((with_reducible show (_ = true → _) ∧ (_ = false → _)); (refine ⟨fun h => ?_, fun h => ?_⟩ <;> try (exact Bool.noConfusion h)))
    | ((with_reducible show OpD _ _ _ _ _ _ _); first | ((with_reducible show OpD _ _ (binaryOp Operator.Add) _ _ _ _); first | refine op_addI ?_ | refine op_addT ?_) | ((with_reducible show OpD _ _ (binaryOp Operator.Sub) _ _ _ _); refine op_subI ?_) | ((with_reducible show OpD _ _ (binaryOp Operator.Mod) _ _ _ _); refine op_modI (by first | decide | assumption) ?_) | ((with_reducible show OpD _ _ (binaryOp Operator.Mult) _ _ _ _); refine op_mulI (by first | exact .inr (by decide) | exact .inl (by decide) | (exact .inl (by omega))) ?_) | ((with_reducible show OpD _ _ (binaryOp Operator.Pow) _ _ _ _); refine op_powI (by decide) (by decide) (by decide) ?_) | ((with_reducible show OpD _ _ (binaryOp Operator.FloorDiv) _ _ _ _); refine op_fdivI (by decide) (by decide) ?_) | ((with_reducible show OpD _ _ (compareOp CmpOp.Lt) _ _ _ _); refine op_ltI ?_) | ((with_reducible show OpD _ _ (compareOp CmpOp.LtE) _ _ _ _); first | refine op_leI ?_ | refine op_leS ?_) | ((with_reducible show OpD _ _ (compareOp CmpOp.Gt) _ _ _ _); refine op_gtI ?_) | ((with_reducible show OpD _ _ (compareOp CmpOp.GtE) _ _ _ _); refine op_geI ?_) | ((with_reducible show OpD _ _ (compareOp CmpOp.Eq) _ _ _ _); first | refine op_eqI ?_ | refine op_eqS ?_) | ((with_reducible show OpD _ _ (compareOp CmpOp.NotEq) _ _ _ _); first | refine op_neI ?_ | refine op_neS ?_))
    | ((with_reducible show CaD _ _ _ _ _ _); first | ((with_reducible show CaD _ _ (Value.builtin "isinstance") [_, SV.ty "int"] _ _); refine ca_isi (by assumption) (kit_int _ (by assumption)) ?_) | ((with_reducible show CaD _ _ (Value.builtin "isinstance") [_, SV.ty "bool"] _ _); refine ca_isi (by assumption) (kit_bool _ (by assumption)) ?_) | ((with_reducible show CaD _ _ (Value.builtin "isinstance") [_, SV.ty "str"] _ _); refine ca_isi (by assumption) (kit_str _ (by assumption)) ?_) | ((with_reducible show CaD _ _ (Value.builtin "isinstance") [_, SV.ty "tuple"] _ _); refine ca_isi (by assumption) (kit_tuple _ (by assumption)) ?_) | ((with_reducible show CaD _ _ (Value.builtin "isinstance") [_, SV.ty "list"] _ _); refine ca_isi (by assumption) (kit_list _ (by assumption)) ?_) | ((with_reducible show CaD _ _ (Value.builtin "isinstance") [_, SV.ty "dict"] _ _); refine ca_isi (by assumption) (kit_dict _ (by assumption)) ?_) | ((with_reducible show CaD _ _ (Value.builtin "max") _ _ _); refine ca_max2 rfl ?_) | ((with_reducible show CaD _ _ (Value.builtin "min") _ _ _); refine ca_min2 rfl ?_) | ((with_reducible show CaD _ _ (Value.builtin "len") _ _ _); first | refine ca_lenT ?_ | refine ca_lenS (by assumption) ?_ | refine ca_lenSc ?_ | refine ca_lenL (.inl rfl) ?_) | ((with_reducible show CaD _ _ (Value.type "list") _ _ _); refine ca_listT ?_) | ((with_reducible show CaD _ _ (Value.builtin "divmod") _ _ _); refine ca_divmod (by assumption) (by omega) ?_) | walk_at "dca")
    | ((with_reducible show DT _ _ _ _ _ _); first | ((with_reducible show DT _ _ (Expr.BoolOp _ _ _) _ _ _); refine dt_w ?_) | ((with_reducible show DT _ _ (Expr.UnaryOp UnaryOp.Not _ _) _ _ _); refine dt_not ?_) | ((with_reducible show DT _ _ (Expr.Compare _ [_] _ _) _ _ _); refine dt_cmp ?_) | ((with_reducible show DT _ _ (Expr.Compare _ [_, _] _ _) _ _ _); refine dt_chain ?_) | refine dt_val ?_)
    | ((with_reducible show DW _ _ _ _ _ _); first | ((with_reducible show DW _ _ (Expr.BoolOp BoolOp.And [_] _) _ _ _); refine dw_and1 ?_) | ((with_reducible show DW _ _ (Expr.BoolOp BoolOp.Or [_] _) _ _ _); refine dw_or1 ?_) | ((with_reducible show DW _ _ (Expr.BoolOp BoolOp.And _ _) _ _ _); refine dw_and ?_) | ((with_reducible show DW _ _ (Expr.BoolOp BoolOp.Or _ _) _ _ _); refine dw_or ?_))
    | ((with_reducible show DSs _ _ _ _ _ _); first | ((with_reducible show DSs _ _ [] _ _ _); refine dss_nil ?_) | ((with_reducible show DSs _ _ [_] _ _ _); refine dss_one ?_) | ((with_reducible show DSs _ _ (_ :: _) _ _ _); refine dss_cons ?_))
    | ((with_reducible show DS _ _ _ _ _ _); first | ((with_reducible show DS _ _ (Stmt.Return (some _) _) _ _ _); refine ds_ret ?_) | ((with_reducible show DS _ _ (Stmt.If _ _ _ _) _ _ _); refine ds_if ?_) | ((with_reducible show DS _ _ (Stmt.Expr _ _) _ _ _); refine ds_expr ?_) | ((with_reducible show DS _ _ (Stmt.Assign [Expr.Name _ _] _ _) _ _ _); walk_at "dset"))
    | ((with_reducible show DP _ _ none _ _ _); refine dp_none ?_)
    | ((with_reducible show DP _ _ (some _) _ _ _); refine dp_some ?_)
    | ((with_reducible show ∃ d, SV.dat _ = SV.dat d ∧ Fi d ∧ _); refine ⟨_, rfl, by assumption, ?_⟩)
    | ((with_reducible show ∃ i, SV.dat (Dt.int _) = SV.dat (Dt.int i) ∧ _); refine ⟨_, rfl, ?_⟩)
    | ((with_reducible show SlD _ _ (SV.dat (Dt.tup _)) _ _ _ _); refine sl_dT ?_)
    | ((with_reducible show ∃ ds, undat _ = some ds ∧ ds.length ≤ 1000 ∧ _); refine ⟨_, rfl, Nat.le_of_ble_eq_true rfl, ?_⟩)
    | ((with_reducible show ∃ q, SV.at _ = SV.at q ∧ _); refine ⟨_, rfl, ?_⟩)
    | ((with_reducible show ∃ z, SV.dat (Dt.str _) = SV.dat (Dt.str z) ∧ _); refine ⟨_, rfl, ?_⟩)
    | ((with_reducible show IxD _ _ (SV.at _) (SV.dat (Dt.int 0)) _ _); refine ix_pot0 (by assumption) (fun _ _ => ?_))
    | ((with_reducible show IxD _ _ (SV.at _) (SV.dat (Dt.int 1)) _ _); refine ix_pot1 (by assumption) (fun _ _ _ => ?_))
    | ((with_reducible show UnD _ _ (unaryOp UnaryOp.USub) _ _ _); refine un_negI ?_)
    | ((with_reducible show Po.nx _ _ _); dsimp only)
    | ((with_reducible show Po.rt _ _ _); dsimp only))
local macro_rules
  | `(tactic| walk_at "drun") => `(tactic| repeat' (walk_at "dstep"))

theorem put_twice {μ : Mus} {q : Addr} {a b : MO} : (μ.put q a).put q b = μ.put q b := by
  funext c
  unfold Mus.put
  by_cases h : c = q
  · rw [if_pos h, if_pos h]
  · rw [if_neg h, if_neg h, if_neg h]
theorem sub_put {μ : Mus} {q : Addr} {a : MO} (h : μ q = none) : μ.Sub (μ.put q a) := fun c o hc => by
  have : c ≠ q := fun e => by rw [e, h] at hc; cases hc
  rw [put_ne this]; exact hc
theorem pot_ne {μ : Mus} {p q : Addr} {a : MO} (hp : μ p = some .pot) (h : μ q = none) : (μ.put q a) p = some .pot := sub_put h p _ hp
theorem atI_some (ds : List Dt) (v : Int) (h0 : 0 ≤ v) (h1 : v < ds.length) : ∃ d, d ∈ ds ∧ atI ds v = some d := by
  have hl : v.toNat < ds.length := by omega
  exact ⟨ds[v.toNat], List.getElem_mem hl, atI_last ds v _ h0 (List.getElem?_eq_getElem hl)⟩
/-! ### lots that are drawn -/
def spDraw : Sp := QSp (fun ds => ∃ m : Int, ds = [.int m] ∧ 0 ≤ m ∧ m ≤ 6) fun ds r => ∃ ns : List Int, r = .tup (ns.map .int) ∧ ns.length ≤ 6 ∧ ∀ y, y ∈ ns → 0 ≤ y ∧ y ≤ 6
set_option hygiene false in
local macro_rules
  | `(tactic| walk_at "down") => `(tactic| first | ((with_reducible show DE _ _ (Expr.Call (Expr.Name "_law_take" _) _ _ _) _ _ _); refine de_take oTake hr (by decide) hg ?_))
section
variable {P : Program} {w : World} {K : PySem.W.Frag} {mg : Str → Option Value} {base : Heap}
abbrev sDraw : Stmt := top 15
theorem scDraw : FnScope ["_law_pot_here", "_law_many", "_law_found", "_law_k"] ["_law_pot_here", "_law_many"] (defScope sDraw) := ⟨rfl, rfl, rfl, by decide +kernel, rfl, by decide +kernel, by decide +kernel⟩
theorem ok_draw {f : Addr} {fd : FuncData} (F : Fun K "_law_lots" "_law_lots" sDraw f fd) (T : Txt mg) (oTake : Own P w K mg base "_law_take" 1 spTake) : FnG P w K mg base 2 f fd ["_law_pot_here", "_law_many"] spDraw := by
  refine fn_pot F scDraw (fun ds ⟨m, e, _⟩ => by rw [e]; rfl) fun cdv A outer s H hr hg w' p ds μ hp ⟨m, e, hm0, hm1⟩ => ?_
  subst e
  obtain ⟨t1, t2, t3, t4, t5, t6, t7, t8, t9, t10, t11, t12, t13, t14, t15, t16, t17, t18⟩ := T
  have hN : (["_law_pot_here", "_law_many", "_law_found", "_law_k"] : List Str).Nodup := by decide +kernel
  refine dss_cons (ds_set 2 hN (de_lstM (da_nil ⟨[], rfl, by decide, fun q hq0 hw0 => ?_⟩)))
  have hpq : ∀ a, (μ.put q a) p = some .pot := fun a => pot_ne hp hq0
  walk_at "drun"
  refine ds_for (di_range1 ?_ t12) PassesOwn.never rfl
  walk_at "drun"
  refine ⟨m, rfl, by omega, by omega, fun n ρ' μ' => ∃ (a : SV) (ns : List Int), ρ' = [.at p, .dat (.int m), .at q, a] ∧ μ' = μ.put q (.lst (ns.map .int)) ∧ ns.length = n ∧ ∀ y, y ∈ ns → 0 ≤ y ∧ y ≤ n, ⟨.no, [], rfl, rfl, rfl, nofun⟩, ?_, ?_⟩
  · rintro n d' ρ' μ' hi ⟨a, ns, rfl, rfl, hl, hns⟩
    have hn : n < m.toNat := by
      have := (List.getElem?_eq_some_iff.mp hi).1
      simpa [upto] using this
    refine dg_name 3 hN ?_
    refine dss_one ?_
    refine ds_expr (de_bm (T := "list") (id := "list.append") (de_nm rfl ⟨ty_lst (.inr ⟨q, rfl, put_same⟩), ?_⟩) PySem.F.plainAttrs_list PySem.F.slot_list_append PySem.F.type_list_append)
    have hpq' := hpq (.lst (ns.map .int))
    walk_at "drun"
    refine op_addL (ys := [.int (-1)]) (.inr ⟨q, rfl, put_same⟩) (.inl rfl) (small_ok (by simp; omega)) ?_
    walk_at "drun"
    refine ca_maxL rfl (ns := ns ++ [-1]) (.inl (by simp)) (by simp) fun z hz1 hz2 => ?_
    have hz0 : -1 ≤ z := hz2 _ (by simp)
    have hz3 : z ≤ n := by
      rcases List.mem_append.mp hz1 with h | h
      · exact (hns z h).2
      · simp at h; omega
    walk_at "drun"
    refine ⟨hpq', ⟨by omega, by omega⟩, fun v hv0 hv1 => ?_⟩
    walk_at "drun"
    refine mt_appendM put_same (by rw [List.length_map]; omega) ?_
    walk_at "drun"
    refine ⟨_, ns ++ [v], rfl, by rw [put_twice, List.map_append]; rfl, by simp [hl], fun y hy => ?_⟩
    rcases List.mem_append.mp hy with h | h
    · have := hns y h; omega
    · simp at h; omega
  · rintro ρ' μ' ⟨a, ns, rfl, rfl, hl, hns⟩
    walk_at "drun"
    refine ca_tupL (.inr ⟨q, rfl, put_same⟩) ?_
    refine ⟨_, rfl, ⟨ns, rfl, ?_, fun y hy => ?_⟩, sub_put hq0⟩
    · rw [hl]; simp [upto]; omega
    · have := hns y hy
      simp [upto] at this
      omega
/-! ### a label -/
end
def Nm (l : List Nat) : Prop := 1 ≤ l.length ∧ l.length ≤ 8 ∧ ∀ c, c ∈ l → 97 ≤ c ∧ c ≤ 122
def spNew : Sp := GSp (fun rs μ => ∃ p q, rs = [.at p, .at q] ∧ μ p = some .pot ∧ μ q = some (.lst []) ∧ p ≠ q) fun rs μ r μ' => ∀ p q, rs = [.at p, .at q] → ∃ l, Nm l ∧ r = .dat (.str (SX.S l)) ∧ μ' = μ.put q (.lst [.str (SX.S l)])
theorem cut_len (x : Str) (lo hi : Option Int) : (cutS x lo hi).length ≤ x.length := by
  show (List.toArray _).size ≤ x.cps.size
  rw [List.size_toArray, List.length_take, List.length_drop, Array.length_toList]
  omega
theorem letters_at (v : Int) (h0 : 0 ≤ v) (h1 : v < 26) : ∃ c, atI (("abcdefghijklmnopqrstuvwxyz" : Str)).cps.toList v = some c ∧ 97 ≤ c ∧ c ≤ 122 := by
  have e : ("abcdefghijklmnopqrstuvwxyz" : Str).cps.toList = (List.range 26).map (97 + ·) := by decide +kernel
  rw [e]
  refine ⟨97 + v.toNat, ?_, by omega, by omega⟩
  unfold atI ixN
  rw [if_pos h0, if_pos (by simp; omega)]
  show ((List.range 26).map (97 + ·))[v.toNat]? = _
  rw [List.getElem?_map, List.getElem?_range (by omega)]
  rfl
theorem signs_of : ∀ acc : List Dt, (∀ d, d ∈ acc → ∃ c, 97 ≤ c ∧ c ≤ 122 ∧ d = .str (SX.S [c])) → ∃ l : List Nat, acc = (l.map fun c => SX.S [c]).map Dt.str ∧ ∀ c, c ∈ l → 97 ≤ c ∧ c ≤ 122
  | [], _ => ⟨[], rfl, nofun⟩
  | d :: acc, h => by
    obtain ⟨l, e, hl⟩ := signs_of acc fun d hd => h d (List.mem_cons_of_mem _ hd)
    obtain ⟨c, h1, h2, h3⟩ := h d List.mem_cons_self
    refine ⟨c :: l, by rw [List.map_cons, List.map_cons, ← e, h3], fun y hy => ?_⟩
    rcases List.mem_cons.mp hy with rfl | g
    · exact ⟨h1, h2⟩
    · exact hl y g
theorem joinL_ones : ∀ l : List Nat, TL.joinL [] (l.map fun c => [c]) = l
  | [] => rfl
  | [c] => rfl
  | c :: d :: l => by
    show [c] ++ ([] ++ TL.joinL [] ((d :: l).map fun c => [c])) = _
    rw [joinL_ones (d :: l)]
    rfl
theorem join_ones (l : List Nat) : Txt.join "" (l.map fun c => SX.S [c]) = SX.S l := by
  have e : (l.map fun c => SX.S [c]) = (l.map fun c => [c]).map SX.S := by rw [List.map_map]; rfl
  rw [e]
  exact (SX.join_S [] _).trans (by rw [joinL_ones])
theorem strs_of : ∀ acc : List Dt, (∀ d, d ∈ acc → ∃ z, d = .str z) → ∃ zs : List Str, acc = zs.map Dt.str
  | [], _ => ⟨[], rfl⟩
  | d :: acc, h => by
    obtain ⟨l, e⟩ := strs_of acc fun d hd => h d (List.mem_cons_of_mem _ hd)
    obtain ⟨c, h1⟩ := h d List.mem_cons_self
    exact ⟨c :: l, by rw [List.map_cons, ← e, h1]⟩
section
variable {P : Program} {w : World} {K : PySem.W.Frag} {mg : Str → Option Value} {base : Heap}
abbrev sNew : Stmt := top 14
abbrev nNew : List Str := ["_law_pot_here", "_law_used", "_law_letters", "_law_size", "_law_name", "_law_some", "_law_k", "_law_one"]
theorem scNew : FnScope nNew ["_law_pot_here", "_law_used"] (defScope sNew) := ⟨rfl, rfl, rfl, by decide +kernel, rfl, by decide +kernel, by decide +kernel⟩
theorem ok_new {f : Addr} {fd : FuncData} (F : Fun K "_law_label" "_law_label" sNew f fd) (T : Txt mg) (oTake : Own P w K mg base "_law_take" 1 spTake) : FnG P w K mg base 2 f fd ["_law_pot_here", "_law_used"] spNew := by
  refine fn_ok F scNew (fun rs μ ⟨p, q, e, _⟩ => by rw [e]; rfl) fun cdv A outer s H hr hg w' rs μ ⟨p, q, e, hp, hq, hpq⟩ => ?_
  subst e
  obtain ⟨t1, t2, t3, t4, t5, t6, t7, t8, t9, t10, t11, t12, t13, t14, t15, t16, t17, t18⟩ := T
  have hN : nNew.Nodup := by decide +kernel
  refine dss_cons (ds_set 2 hN ?_)
  walk_at "drun"
  refine ds_set 3 hN ?_
  walk_at "drun"
  refine ⟨hp, ⟨by decide, by decide⟩, fun v hv0 hv1 => ?_⟩
  walk_at "drun"
  refine ⟨hp, ⟨by decide, by decide⟩, fun u hu0 hu1 => ?_⟩
  obtain ⟨d, hd, hat⟩ := atI_some [.int 1, .int 1, .int 2, .int 8, .int (1 + v)] u hu0 (by simpa using hu1)
  have hsz : ∃ n : Nat, d = .int n ∧ 1 ≤ n ∧ n ≤ 8 := by
    simp only [List.mem_cons, List.not_mem_nil, or_false] at hd
    rcases hd with rfl | rfl | rfl | rfl | rfl
    · exact ⟨1, rfl, by omega, by omega⟩
    · exact ⟨1, rfl, by omega, by omega⟩
    · exact ⟨2, rfl, by omega, by omega⟩
    · exact ⟨8, rfl, by omega, by omega⟩
    · exact ⟨(1 + v).toNat, by rw [Int.toNat_of_nonneg (by omega)], by omega, by omega⟩
  obtain ⟨n, rfl, hn1, hn8⟩ := hsz
  refine ix_dL (.inl rfl) hat ?_
  walk_at "drun"
  refine ds_set 4 hN ?_
  refine de_join ?_
  walk_at "drun"
  refine de_lc 6 rfl hN (blkOk_by (N := nNew) (sc := defScope sNew) (by decide +kernel)) ?_
  refine di_range1 ?_ t12
  walk_at "drun"
  refine ⟨_, rfl, by omega, by omega, ?_⟩
  refine lc_some (fun d => ∃ c, 97 ≤ c ∧ c ≤ 122 ∧ d = .str (SX.S [c])) (by simp [upto]; omega) ?_ ?_
  · intro d hd w2 k
    walk_at "drun"
    refine ⟨hp, ⟨by decide, by decide⟩, fun y hy0 hy1 => ?_⟩
    obtain ⟨c, hc, hc1, hc2⟩ := letters_at y hy0 hy1
    refine ix_dS (small_ok (by decide)) hc ?_
    exact ⟨_, rfl, ⟨c, hc1, hc2, rfl⟩, rfl⟩
  intro acc hacc hT
  obtain ⟨l, rfl, hl⟩ := signs_of acc hT
  have hln : l.length = n := by simpa [upto] using hacc
  refine ⟨l.map fun c => SX.S [c], .inl rfl, ?_, ?_⟩
  · have : ∀ l : List Nat, ((l.map fun c => SX.S [c]).map (·.length)).sum = l.length := by
      intro l
      induction l with
      | nil => rfl
      | cons c l ih => rw [List.map_cons, List.map_cons, List.sum_cons, ih, List.length_cons]; show 1 + _ = _; omega
    rw [this, List.length_map]
    have e0 : ("" : Str).length = 0 := rfl
    rw [e0]
    omega
  rw [join_ones]
  walk_at "drun"
  show DS (bx P w K mg base nNew "_law_label" sNew f cdv A outer s H) w' _ [.at p, .at q, .dat (.str "abcdefghijklmnopqrstuvwxyz"), .dat (.int n), .dat (.str (SX.S l)), .no, .no, .no] μ _
  have hlen : (SX.S l).length ≤ 8 := by rw [SX.S_len]; omega
  refine ds_set 5 hN ?_
  walk_at "drun"
  refine de_lc 7 rfl hN (blkOk_by (N := nNew) (sc := defScope sNew) (by decide +kernel)) ?_
  refine di_str ?_
  walk_at "drun"
  refine lc_some (fun d => ∃ z, d = .str z) (by decide) ?_ ?_
  · intro d hd w2 k
    obtain ⟨c, hc, rfl⟩ := signs_mem hd
    walk_at "drun"
    refine sl_dS (small_ok (by omega)) ?_
    have hcl := cut_len (SX.S l) none (some 7)
    refine op_addS (small_ok (by have : (⟨#[c]⟩ : Str).length = 1 := rfl; omega)) ?_
    exact ⟨_, rfl, ⟨_, rfl⟩, rfl⟩
  intro acc1 hacc1 hT1
  have hs26 : (Dat.signs "abcdefghijklmnopqrstuvwxyz").length = 26 := by decide
  rw [hs26] at hacc1
  refine op_addL (.inl rfl) (.inl rfl) (small_ok (by simp; omega)) ?_
  refine de_lc 7 rfl hN (blkOk_by (N := nNew) (sc := defScope sNew) (by decide +kernel)) ?_
  refine di_str ?_
  walk_at "drun"
  refine lc_some (fun d => ∃ z, d = .str z) (by decide) ?_ ?_
  · intro d hd w2 k
    obtain ⟨c, hc, rfl⟩ := signs_mem hd
    have h1 : (⟨#[c]⟩ : Str).length = 1 := rfl
    walk_at "drun"
    refine op_addS (small_ok (by omega)) ?_
    walk_at "drun"
    refine sl_dS (small_ok (by omega)) ?_
    have hcl := cut_len (SX.S l) none (some 6)
    have h2 : ((⟨#[c]⟩ : Str) ++ (⟨#[c]⟩ : Str)).length = 2 := rfl
    refine op_addS (small_ok (by omega)) ?_
    exact ⟨_, rfl, ⟨_, rfl⟩, rfl⟩
  intro acc2 hacc2 hT2
  rw [hs26] at hacc2
  refine op_addL (.inl rfl) (.inl rfl) (small_ok (by simp; omega)) ?_
  obtain ⟨z1, e1⟩ := strs_of acc1 hT1
  obtain ⟨z2, e2⟩ := strs_of acc2 hT2
  have hall : ∀ d, d ∈ ([.str (SX.S l)] ++ acc1 ++ acc2 : List Dt) → ∃ z, d = .str z := by
    intro d hd
    simp only [List.mem_append, List.mem_singleton] at hd
    rcases hd with (rfl | h) | h
    · exact ⟨_, rfl⟩
    · exact hT1 d h
    · exact hT2 d h
  walk_at "drun"
  show DS (bx P w K mg base nNew "_law_label" sNew f cdv A outer s H) w' _ [.at p, .at q, .dat (.str "abcdefghijklmnopqrstuvwxyz"), .dat (.int n), .dat (.str (SX.S l)), .dat (.lst ([.str (SX.S l)] ++ acc1 ++ acc2)), .no, .no] μ _
  refine ds_set 4 hN ?_
  walk_at "drun"
  refine de_lc 7 rfl hN (blkOk_by (N := nNew) (sc := defScope sNew) (by decide +kernel)) ?_
  refine di_lst ?_
  walk_at "drun"
  refine ⟨_, rfl, lc_filter id (fun _ => true) (by simp; omega) ?_ ?_ ?_⟩
  · intro d hd w2 k
    obtain ⟨z, rfl⟩ := hall d hd
    walk_at "drun"
    refine op_notInL (zs := []) (.inr ⟨q, rfl, hq⟩) ?_
    walk_at "drun"
    exact ⟨rfl, rfl⟩
  · intro d hd _ w2 k
    obtain ⟨z, rfl⟩ := hall d hd
    walk_at "drun"
    exact ⟨rfl, rfl⟩
  walk_at "drun"
  refine ix_dL (.inl rfl) (d := .str (SX.S l)) (by
    have e : ((([.str (SX.S l)] ++ acc1 ++ acc2 : List Dt).filter fun _ => true).map id) = .str (SX.S l) :: (acc1 ++ acc2) := by rw [List.filter_eq_self.mpr (fun _ _ => rfl), List.map_id]; rfl
    rw [e]
    exact atI_head _ _) ?_
  walk_at "drun"
  refine de_bm (T := "list") (id := "list.append") (de_nm rfl ⟨ty_lst (.inr ⟨q, rfl, hq⟩), ?_⟩) PySem.F.plainAttrs_list PySem.F.slot_list_append PySem.F.type_list_append
  walk_at "drun"
  refine mt_appendM hq (by decide) ?_
  walk_at "drun"
  refine ⟨_, Mus.Sub.refl _, fun p' q' e => ?_⟩
  cases e
  exact ⟨l, ⟨by omega, by omega, hl⟩, rfl, rfl⟩
end
end K11

set_option Elab.async false
set_option linter.all false
set_option maxRecDepth 100000
set_option maxHeartbeats 4000000
namespace K11
open PySem PySem.Spec PyProof.Rows L2 Dat
local macro_rules
  | `(tactic| walk_at "down") => `(tactic| fail "none")
local macro_rules
  | `(tactic| walk_at "dset") => `(tactic| fail "none")
local macro_rules
  | `(tactic| walk_at "dhook") => `(tactic| fail "none")
local macro_rules
  | `(tactic| walk_at "dca") => `(tactic| fail "none")
local macro_rules
  | `(tactic| walk_at "dlst") => `(tactic| refine de_lst ?_)
local macro_rules
  | `(tactic| walk_at "dstep") => `(tactic| first
    | ((with_reducible show DE _ _ _ _ _ _); first | ((with_reducible show DE _ _ (Expr.Name _ _) _ _ _); first | ((with_reducible show DE _ _ (Expr.Name "int" _) _ _ _); refine de_ty_int (by assumption) ?_) | ((with_reducible show DE _ _ (Expr.Name "str" _) _ _ _); refine de_ty_str (by assumption) ?_) | ((with_reducible show DE _ _ (Expr.Name "bool" _) _ _ _); refine de_ty_bool (by assumption) ?_) | ((with_reducible show DE _ _ (Expr.Name "tuple" _) _ _ _); refine de_ty_tuple (by assumption) ?_) | ((with_reducible show DE _ _ (Expr.Name "list" _) _ _ _); refine de_ty_list (by assumption) ?_) | ((with_reducible show DE _ _ (Expr.Name "dict" _) _ _ _); refine de_ty_dict (by assumption) ?_) | refine de_nm rfl ?_ | refine de_globI (by assumption) ?_) | ((with_reducible show DE _ _ (Expr.Constant _ _ _) _ _ _); first | refine de_int ?_ | refine de_str ?_ | refine de_bl ?_ | refine de_non ?_) | ((with_reducible show DE _ _ (Expr.Call (Expr.Name _ _) _ _ _) _ _ _); first | ((with_reducible show DE _ _ (Expr.Call (Expr.Name "isinstance" _) _ _ _) _ _ _); refine de_isinstance ?_ (by assumption)) | ((with_reducible show DE _ _ (Expr.Call (Expr.Name "len" _) _ _ _) _ _ _); refine de_len ?_ (by assumption)) | ((with_reducible show DE _ _ (Expr.Call (Expr.Name "max" _) _ _ _) _ _ _); refine de_max ?_ (by assumption)) | ((with_reducible show DE _ _ (Expr.Call (Expr.Name "min" _) _ _ _) _ _ _); refine de_min ?_ (by assumption)) | ((with_reducible show DE _ _ (Expr.Call (Expr.Name "all" _) _ _ _) _ _ _); refine de_all ?_ (by assumption)) | ((with_reducible show DE _ _ (Expr.Call (Expr.Name "repr" _) _ _ _) _ _ _); refine de_repr ?_ (by assumption)) | ((with_reducible show DE _ _ (Expr.Call (Expr.Name "divmod" _) _ _ _) _ _ _); refine de_divmod ?_ (by assumption)) | ((with_reducible show DE _ _ (Expr.Call (Expr.Name "list" _) _ _ _) _ _ _); refine de_clist ?_ (by assumption)) | ((with_reducible show DE _ _ (Expr.Call (Expr.Name "tuple" _) _ _ _) _ _ _); refine de_ctuple ?_ (by assumption)) | walk_at "down") | ((with_reducible show DE _ _ (Expr.BinOp _ _ _ _) _ _ _); refine de_op ?_) | ((with_reducible show DE _ _ (Expr.Compare _ [_] _ _) _ _ _); refine de_cmp ?_) | ((with_reducible show DE _ _ (Expr.Compare _ [_, _] _ _) _ _ _); refine de_chain ?_) | ((with_reducible show DE _ _ (Expr.Subscript _ (Expr.Slice _ _ _ _) _) _ _ _); refine de_slice ?_) | ((with_reducible show DE _ _ (Expr.Subscript _ _ _) _ _ _); refine de_ix ?_) | ((with_reducible show DE _ _ (Expr.BoolOp _ [_] _) _ _ _); refine de_one ?_) | ((with_reducible show DE _ _ (Expr.BoolOp BoolOp.And _ _) _ _ _); refine de_and ?_) | ((with_reducible show DE _ _ (Expr.BoolOp BoolOp.Or _ _) _ _ _); refine de_or ?_) | ((with_reducible show DE _ _ (Expr.UnaryOp UnaryOp.Not _ _) _ _ _); refine de_not ?_) | ((with_reducible show DE _ _ (Expr.UnaryOp _ _ _) _ _ _); refine de_un ?_) | ((with_reducible show DE _ _ (Expr.IfExp _ _ _ _) _ _ _); refine de_ifx ?_) | ((with_reducible show DE _ _ (Expr.Tuple _ _ _) _ _ _); refine de_tup ?_) | ((with_reducible show DE _ _ (Expr.List _ _) _ _ _); walk_at "dlst") | ((with_reducible show DE _ _ (Expr.Dict [] [] _) _ _ _); refine de_dict0 ?_) | walk_at "dhook")
    | ((with_reducible show DA _ _ _ _ _ _); first | ((with_reducible show DA _ _ [] _ _ _); refine da_nil ?_) | ((with_reducible show DA _ _ (_ :: _) _ _ _); refine da_cons ?_))
    | ((with_reducible show BoolR _ _); refine ⟨_, rfl, ?_⟩)
    | ((with_reducible show (_ = true → _) ∧ (_ = false → _)); (refine ⟨fun h => ?_, fun h => ?_⟩ <;> try (exact Bool.noConfusion h)))
    | ((with_reducible show OpD _ _ _ _ _ _ _); first | ((with_reducible show OpD _ _ (binaryOp Operator.Add) _ _ _ _); first | refine op_addI ?_ | refine op_addT ?_) | ((with_reducible show OpD _ _ (binaryOp Operator.Sub) _ _ _ _); refine op_subI ?_) | ((with_reducible show OpD _ _ (binaryOp Operator.Mod) _ _ _ _); refine op_modI (by first | decide | assumption) ?_) | ((with_reducible show OpD _ _ (binaryOp Operator.Mult) _ _ _ _); refine op_mulI (by first | exact .inr (by decide) | exact .inl (by decide) | (exact .inl (by omega))) ?_) | ((with_reducible show OpD _ _ (binaryOp Operator.Pow) _ _ _ _); refine op_powI (by decide) (by decide) (by decide) ?_) | ((with_reducible show OpD _ _ (binaryOp Operator.FloorDiv) _ _ _ _); refine op_fdivI (by decide) (by decide) ?_) | ((with_reducible show OpD _ _ (compareOp CmpOp.Lt) _ _ _ _); refine op_ltI ?_) | ((with_reducible show OpD _ _ (compareOp CmpOp.LtE) _ _ _ _); first | refine op_leI ?_ | refine op_leS ?_) | ((with_reducible show OpD _ _ (compareOp CmpOp.Gt) _ _ _ _); refine op_gtI ?_) | ((with_reducible show OpD _ _ (compareOp CmpOp.GtE) _ _ _ _); refine op_geI ?_) | ((with_reducible show OpD _ _ (compareOp CmpOp.Eq) _ _ _ _); first | refine op_eqI ?_ | refine op_eqS ?_) | ((with_reducible show OpD _ _ (compareOp CmpOp.NotEq) _ _ _ _); first | refine op_neI ?_ | refine op_neS ?_))
    | ((with_reducible show CaD _ _ _ _ _ _); first | ((with_reducible show CaD _ _ (Value.builtin "isinstance") [_, SV.ty "int"] _ _); refine ca_isi (by assumption) (kit_int _ (by assumption)) ?_) | ((with_reducible show CaD _ _ (Value.builtin "isinstance") [_, SV.ty "bool"] _ _); refine ca_isi (by assumption) (kit_bool _ (by assumption)) ?_) | ((with_reducible show CaD _ _ (Value.builtin "isinstance") [_, SV.ty "str"] _ _); refine ca_isi (by assumption) (kit_str _ (by assumption)) ?_) | ((with_reducible show CaD _ _ (Value.builtin "isinstance") [_, SV.ty "tuple"] _ _); refine ca_isi (by assumption) (kit_tuple _ (by assumption)) ?_) | ((with_reducible show CaD _ _ (Value.builtin "isinstance") [_, SV.ty "list"] _ _); refine ca_isi (by assumption) (kit_list _ (by assumption)) ?_) | ((with_reducible show CaD _ _ (Value.builtin "isinstance") [_, SV.ty "dict"] _ _); refine ca_isi (by assumption) (kit_dict _ (by assumption)) ?_) | ((with_reducible show CaD _ _ (Value.builtin "max") _ _ _); refine ca_max2 rfl ?_) | ((with_reducible show CaD _ _ (Value.builtin "min") _ _ _); refine ca_min2 rfl ?_) | ((with_reducible show CaD _ _ (Value.builtin "len") _ _ _); first | refine ca_lenT ?_ | refine ca_lenS (by assumption) ?_ | refine ca_lenSc ?_ | refine ca_lenL (.inl rfl) ?_) | ((with_reducible show CaD _ _ (Value.type "list") _ _ _); refine ca_listT ?_) | ((with_reducible show CaD _ _ (Value.builtin "divmod") _ _ _); refine ca_divmod (by assumption) (by omega) ?_) | walk_at "dca")
    | ((with_reducible show DT _ _ _ _ _ _); first | ((with_reducible show DT _ _ (Expr.BoolOp _ _ _) _ _ _); refine dt_w ?_) | ((with_reducible show DT _ _ (Expr.UnaryOp UnaryOp.Not _ _) _ _ _); refine dt_not ?_) | ((with_reducible show DT _ _ (Expr.Compare _ [_] _ _) _ _ _); refine dt_cmp ?_) | ((with_reducible show DT _ _ (Expr.Compare _ [_, _] _ _) _ _ _); refine dt_chain ?_) | refine dt_val ?_)
    | ((with_reducible show DW _ _ _ _ _ _); first | ((with_reducible show DW _ _ (Expr.BoolOp BoolOp.And [_] _) _ _ _); refine dw_and1 ?_) | ((with_reducible show DW _ _ (Expr.BoolOp BoolOp.Or [_] _) _ _ _); refine dw_or1 ?_) | ((with_reducible show DW _ _ (Expr.BoolOp BoolOp.And _ _) _ _ _); refine dw_and ?_) | ((with_reducible show DW _ _ (Expr.BoolOp BoolOp.Or _ _) _ _ _); refine dw_or ?_))
    | ((with_reducible show DSs _ _ _ _ _ _); first | ((with_reducible show DSs _ _ [] _ _ _); refine dss_nil ?_) | ((with_reducible show DSs _ _ [_] _ _ _); refine dss_one ?_) | ((with_reducible show DSs _ _ (_ :: _) _ _ _); refine dss_cons ?_))
    | ((with_reducible show DS _ _ _ _ _ _); first | ((with_reducible show DS _ _ (Stmt.Return (some _) _) _ _ _); refine ds_ret ?_) | ((with_reducible show DS _ _ (Stmt.If _ _ _ _) _ _ _); refine ds_if ?_) | ((with_reducible show DS _ _ (Stmt.Expr _ _) _ _ _); refine ds_expr ?_) | ((with_reducible show DS _ _ (Stmt.Assign [Expr.Name _ _] _ _) _ _ _); walk_at "dset"))
    | ((with_reducible show DP _ _ none _ _ _); refine dp_none ?_)
    | ((with_reducible show DP _ _ (some _) _ _ _); refine dp_some ?_)
    | ((with_reducible show ∃ d, SV.dat _ = SV.dat d ∧ Fi d ∧ _); refine ⟨_, rfl, by assumption, ?_⟩)
    | ((with_reducible show ∃ i, SV.dat (Dt.int _) = SV.dat (Dt.int i) ∧ _); refine ⟨_, rfl, ?_⟩)
    | ((with_reducible show SlD _ _ (SV.dat (Dt.tup _)) _ _ _ _); refine sl_dT ?_)
    | ((with_reducible show ∃ ds, undat _ = some ds ∧ ds.length ≤ 1000 ∧ _); refine ⟨_, rfl, Nat.le_of_ble_eq_true rfl, ?_⟩)
    | ((with_reducible show ∃ q, SV.at _ = SV.at q ∧ _); refine ⟨_, rfl, ?_⟩)
    | ((with_reducible show ∃ z, SV.dat (Dt.str _) = SV.dat (Dt.str z) ∧ _); refine ⟨_, rfl, ?_⟩)
    | ((with_reducible show IxD _ _ (SV.at _) (SV.dat (Dt.int 0)) _ _); refine ix_pot0 (by assumption) (fun _ _ => ?_))
    | ((with_reducible show IxD _ _ (SV.at _) (SV.dat (Dt.int 1)) _ _); refine ix_pot1 (by assumption) (fun _ _ _ => ?_))
    | ((with_reducible show UnD _ _ (unaryOp UnaryOp.USub) _ _ _); refine un_negI ?_)
    | ((with_reducible show Po.nx _ _ _); dsimp only)
    | ((with_reducible show Po.rt _ _ _); dsimp only))
local macro_rules
  | `(tactic| walk_at "drun") => `(tactic| repeat' (walk_at "dstep"))

def ok0 : List Dt → Prop := fun ds => ds = []
section
variable {X : Cx} {w : Wd} {ρ : List SV} {μ : Mus} {R : SV → Mus → Prop} {e e2 e3 : Expr} {es : List Expr} {x : Str} {p pos : Pos} {j k : Nat}
theorem de_q0 {x : Str} {res : List Dt → Dt → Prop} (O : Own X.prog X.w X.K X.mg X.base x k (QSp ok0 res)) (hr : Room j X.A) (hkj : k ≤ j) (hgd : X.A.guards = some [])
    (ha : DE X w e ρ μ fun r μ1 => ∃ q, r = .at q ∧ μ1 q = some .pot ∧ ∀ d, res [] d → R (.dat d) μ1) (hg : Gl X x := by rfl) (hdb : (x == ("__debug__" : Str)) = false := by decide)
    (he : starEach [e] X.env = (false, eval e X.env) :: starEach [] X.env := by rfl) (hpl : (backTo pos (starEach [] X.env)).any (·.1) = false := by rfl) : DE X w (.Call (.Name x p) [e] [] pos) ρ μ R :=
  de_pot O hr hkj hgd (da_cons (hs := he) (ha.imp fun r μ1 ⟨q, e1, h1, h2⟩ => by
    subst e1
    exact da_nil ⟨q, [], [], rfl, rfl, h1, rfl, h2⟩)) hg hdb he hpl
/-- a label made with a fresh list -/
theorem de_new (O : Own X.prog X.w X.K X.mg X.base x k spNew) (hr : Room j X.A) (hkj : k ≤ j) (hgd : X.A.guards = some []) {q0 : Pos}
    (ha : DE X w e ρ μ fun r μ1 => ∃ p, r = .at p ∧ μ1 p = some .pot ∧ ∀ l q a, Nm l → μ1 q = none → R (.dat (.str (SX.S l))) (μ1.put q a)) (hg : Gl X x := by rfl) (hdb : (x == ("__debug__" : Str)) = false := by decide)
    (he : starEach [e, .List [] q0] X.env = (false, eval e X.env) :: starEach [.List [] q0] X.env := by rfl) (he2 : starEach [.List [] q0] X.env = (false, eval (.List [] q0) X.env) :: starEach [] X.env := by rfl) (hpl : (backTo pos (starEach [.List [] q0] X.env)).any (·.1) = false := by rfl) : DE X w (.Call (.Name x p) [e, .List [] q0] [] pos) ρ μ R :=
  de_own O hr hkj hgd (da_cons (hs := he) (ha.imp fun r μ1 ⟨p, e1, h1, h2⟩ => by
    subst e1
    refine da_cons (hs := he2) (de_lstM (da_nil ⟨[], rfl, by decide, fun q hq0 hw0 => da_nil ⟨⟨p, q, rfl, pot_ne h1 hq0, put_same, fun e => ?_⟩, fun r μ2 h3 => ?_⟩⟩))
    · rw [e, hq0] at h1; cases h1
    · obtain ⟨l, h4, rfl, rfl⟩ := h3 p q rfl
      rw [put_twice]
      exact h2 l q _ h4 hq0)) hg hdb he hpl
end
def spPath : Sp := QSp ok0 fun _ r => ∃ (l : List Nat) (ns : List Int), Nm l ∧ r = .tup (.str (SX.S l) :: ns.map .int) ∧ ns.length ≤ 9 ∧ ∀ y, y ∈ ns → 0 ≤ y ∧ y ≤ 11
set_option hygiene false in
local macro_rules
  | `(tactic| walk_at "down") => `(tactic| first | ((with_reducible show DE _ _ (Expr.Call (Expr.Name "_law_take" _) _ _ _) _ _ _); refine de_take oTake hr (by decide) hg ?_) | ((with_reducible show DE _ _ (Expr.Call (Expr.Name "_law_label" _) _ _ _) _ _ _); refine de_new oNew hr (by decide) hg ?_))
theorem ints_of : ∀ (acc : List Dt) (lo hi : Int), (∀ d, d ∈ acc → ∃ v, d = .int v ∧ lo ≤ v ∧ v ≤ hi) → ∃ ns : List Int, acc = ns.map Dt.int ∧ ∀ y, y ∈ ns → lo ≤ y ∧ y ≤ hi
  | [], _, _, _ => ⟨[], rfl, nofun⟩
  | d :: acc, lo, hi, h => by
    obtain ⟨ns, e, hl⟩ := ints_of acc lo hi fun d hd => h d (List.mem_cons_of_mem _ hd)
    obtain ⟨c, h1, h2⟩ := h d List.mem_cons_self
    refine ⟨c :: ns, by rw [List.map_cons, ← e, h1], fun y hy => ?_⟩
    rcases List.mem_cons.mp hy with rfl | g
    · exact h2
    · exact hl y g
section
variable {P : Program} {w : World} {K : PySem.W.Frag} {mg : Str → Option Value} {base : Heap}
abbrev sLPath : Stmt := top 21
theorem scLPath : FnScope ["_law_pot_here", "_law_k"] ["_law_pot_here"] (defScope sLPath) := ⟨rfl, rfl, rfl, by decide +kernel, rfl, by decide +kernel, by decide +kernel⟩
theorem ok_lpath {f : Addr} {fd : FuncData} (F : Fun K "_law_path" "_law_path" sLPath f fd) (T : Txt mg) (oTake : Own P w K mg base "_law_take" 1 spTake) (oNew : Own P w K mg base "_law_label" 2 spNew) : FnG P w K mg base 3 f fd ["_law_pot_here"] spPath := by
  refine fn_pot F scLPath (fun ds e => by rw [e]; rfl) fun cdv A outer s H hr hg w' p ds μ hp e => ?_
  subst e
  obtain ⟨t1, t2, t3, t4, t5, t6, t7, t8, t9, t10, t11, t12, t13, t14, t15, t16, t17, t18⟩ := T
  have hN : (["_law_pot_here", "_law_k"] : List Str).Nodup := by decide +kernel
  refine dss_one ?_
  walk_at "drun"
  refine ⟨hp, fun l q a hl hq => ?_⟩
  have hp' : (μ.put q a) p = some .pot := pot_ne hp hq
  walk_at "drun"
  refine de_lc 1 rfl hN (blkOk_by (N := ["_law_pot_here", "_law_k"]) (sc := defScope sLPath) (by decide +kernel)) ?_
  refine di_range1 ?_ t12
  walk_at "drun"
  refine ⟨hp', ⟨by decide, by decide⟩, fun n hn0 hn1 => ?_⟩
  walk_at "drun"
  refine ⟨_, rfl, by omega, by omega, ?_⟩
  refine lc_some (fun d => ∃ v : Int, d = .int v ∧ 0 ≤ v ∧ v ≤ 11) (by simp [upto]; omega) ?_ ?_
  · intro d hd w2 k
    walk_at "drun"
    refine ⟨hp', ⟨by decide, by decide⟩, fun v hv0 hv1 => ?_⟩
    exact ⟨_, rfl, ⟨v, rfl, hv0, by omega⟩, rfl⟩
  intro acc hacc hT
  obtain ⟨ns, rfl, hns⟩ := ints_of acc 0 11 hT
  have hln : ns.length ≤ 9 := by
    simp [upto] at hacc
    omega
  refine op_addL (.inl rfl) (.inl rfl) (small_ok (by simp; omega)) ?_
  walk_at "drun"
  refine ca_tupL (.inl rfl) ?_
  exact ⟨_, rfl, ⟨l, ns, hl, rfl, hln, hns⟩, sub_put hq⟩
/-! ### odd things -/
def chD (s : String) : Dt := .str s
def odds1 : List Dt := [.non, .int 0, .bl false, .bl true, .int 1, .int (-1), .int 7, chD "", chD "A", chD "a b", chD "a1", chD "abcdefghi", chD "a", .tup [], .lst [], .dic [] [], .tup [.int 0], .lst [.int 0], .tup [chD "a"]]
def odds2 : List Dt := [.lst [chD "a"], .tup [.tup []], .tup [.non], .tup [chD "a", .int 1], .tup [chD "a", .int 12], .tup [chD "a", .int (-1)], .tup [chD "A"], .tup [chD "a", .bl true], .dic [chD "a"] [.tup []]]
def Odd (d : Dt) : Prop := fine 64 30 2 d ∧ (hasDic d = true → hasLst d = false)
def spOdd : Sp := QSp ok0 fun _ r => Odd r
def fineB : Nat → Dt → Bool
  | _, .non => true
  | _, .bl _ => true
  | _, .int i => decide (i.natAbs < 10 ^ 30)
  | _, .str x => decide (x.length ≤ 64) && x.cps.toList.all fun c => decide (c < 256)
  | n + 1, .lst xs => decide (xs.length ≤ 30) && xs.all (fineB n)
  | n + 1, .tup xs => decide (xs.length ≤ 30) && xs.all (fineB n)
  | n + 1, .dic ks vs => decide (ks.length ≤ 4) && ks.all (fineB n) && vs.all (fineB n)
  | _, _ => false
theorem fine_of : ∀ (n : Nat) (d : Dt), fineB n d = true → fine 64 30 n d
  | 0, d, h => by
    cases d with
    | str x =>
      simp only [fineB, Bool.and_eq_true, decide_eq_true_eq, List.all_eq_true] at h
      exact h
    | _ => simp_all [fineB, fine]
  | n + 1, d, h => by
    cases d with
    | str x =>
      simp only [fineB, Bool.and_eq_true, decide_eq_true_eq, List.all_eq_true] at h
      exact h
    | lst xs =>
      simp only [fineB, Bool.and_eq_true, decide_eq_true_eq, List.all_eq_true] at h
      exact ⟨h.1, fun d hd => fine_of n d (h.2 d hd)⟩
    | tup xs =>
      simp only [fineB, Bool.and_eq_true, decide_eq_true_eq, List.all_eq_true] at h
      exact ⟨h.1, fun d hd => fine_of n d (h.2 d hd)⟩
    | dic ks vs =>
      simp only [fineB, Bool.and_eq_true, decide_eq_true_eq, List.all_eq_true] at h
      exact ⟨h.1.1, fun d hd => fine_of n d (h.1.2 d hd), fun d hd => fine_of n d (h.2 d hd)⟩
    | _ => simp_all [fineB, fine]
theorem odds_odd : ∀ d, d ∈ odds1 ++ odds2 → Odd d := by
  have h : (odds1 ++ odds2).all (fun d => fineB 2 d && (!hasDic d || !hasLst d)) = true := by decide +kernel
  intro d hd
  have := List.all_eq_true.mp h d hd
  rw [Bool.and_eq_true] at this
  refine ⟨fine_of 2 d this.1, fun g => ?_⟩
  have h2 := this.2
  rw [g] at h2
  simpa using h2
abbrev sOdd : Stmt := top 16
theorem scOdd : FnScope ["_law_pot_here", "_law_some"] ["_law_pot_here"] (defScope sOdd) := ⟨rfl, rfl, rfl, by decide +kernel, rfl, by decide +kernel, by decide +kernel⟩
theorem ok_odd {f : Addr} {fd : FuncData} (F : Fun K "_law_odd" "_law_odd" sOdd f fd) (T : Txt mg) (oTake : Own P w K mg base "_law_take" 1 spTake) : FnG P w K mg base 2 f fd ["_law_pot_here"] spOdd := by
  refine fn_pot F scOdd (fun ds e => by rw [e]; rfl) fun cdv A outer s H hr hg w' p ds μ hp e => ?_
  subst e
  obtain ⟨t1, t2, t3, t4, t5, t6, t7, t8, t9, t10, t11, t12, t13, t14, t15, t16, t17, t18⟩ := T
  have hN : (["_law_pot_here", "_law_some"] : List Str).Nodup := by decide +kernel
  refine dss_cons (ds_set 1 hN ?_)
  walk_at "drun"
  refine ds_set 1 hN ?_
  walk_at "drun"
  refine de_dict1 fun _ => ?_
  walk_at "drun"
  refine ⟨_, rfl, ?_⟩
  walk_at "drun"
  refine op_addL (.inl rfl) (.inl rfl) (small_ok (by decide)) ?_
  walk_at "drun"
  refine ⟨hp, ⟨by decide, by decide⟩, fun v hv0 hv1 => ?_⟩
  obtain ⟨d, hd, hat⟩ := atI_some (odds1 ++ odds2) v hv0 (by simpa [odds1, odds2] using hv1)
  exact ix_dL (.inl rfl) hat ⟨_, rfl, odds_odd d hd, Mus.Sub.refl _⟩
end
end K11

set_option Elab.async false
set_option linter.all false
set_option maxRecDepth 100000
set_option maxHeartbeats 4000000
namespace K11
open PySem PySem.Spec PyProof.Rows L2 Dat
local macro_rules
  | `(tactic| walk_at "down") => `(tactic| fail "none")
local macro_rules
  | `(tactic| walk_at "dset") => `(tactic| fail "none")
local macro_rules
  | `(tactic| walk_at "dhook") => `(tactic| fail "none")
local macro_rules
  | `(tactic| walk_at "dca") => `(tactic| fail "none")
local macro_rules
  | `(tactic| walk_at "dlst") => `(tactic| refine de_lst ?_)
local macro_rules
  | `(tactic| walk_at "dstep") => `(tactic| first
    | ((with_reducible show DE _ _ _ _ _ _); first | ((with_reducible show DE _ _ (Expr.Name _ _) _ _ _); first | ((with_reducible show DE _ _ (Expr.Name "int" _) _ _ _); refine de_ty_int (by assumption) ?_) | ((with_reducible show DE _ _ (Expr.Name "str" _) _ _ _); refine de_ty_str (by assumption) ?_) | ((with_reducible show DE _ _ (Expr.Name "bool" _) _ _ _); refine de_ty_bool (by assumption) ?_) | ((with_reducible show DE _ _ (Expr.Name "tuple" _) _ _ _); refine de_ty_tuple (by assumption) ?_) | ((with_reducible show DE _ _ (Expr.Name "list" _) _ _ _); refine de_ty_list (by assumption) ?_) | ((with_reducible show DE _ _ (Expr.Name "dict" _) _ _ _); refine de_ty_dict (by assumption) ?_) | refine de_nm rfl ?_ | refine de_globI (by assumption) ?_) | ((with_reducible show DE _ _ (Expr.Constant _ _ _) _ _ _); first | refine de_int ?_ | refine de_str ?_ | refine de_bl ?_ | refine de_non ?_) | ((with_reducible show DE _ _ (Expr.Call (Expr.Name _ _) _ _ _) _ _ _); first | ((with_reducible show DE _ _ (Expr.Call (Expr.Name "isinstance" _) _ _ _) _ _ _); refine de_isinstance ?_ (by assumption)) | ((with_reducible show DE _ _ (Expr.Call (Expr.Name "len" _) _ _ _) _ _ _); refine de_len ?_ (by assumption)) | ((with_reducible show DE _ _ (Expr.Call (Expr.Name "max" _) _ _ _) _ _ _); refine de_max ?_ (by assumption)) | ((with_reducible show DE _ _ (Expr.Call (Expr.Name "min" _) _ _ _) _ _ _); refine de_min ?_ (by assumption)) | ((with_reducible show DE _ _ (Expr.Call (Expr.Name "all" _) _ _ _) _ _ _); refine de_all ?_ (by assumption)) | ((with_reducible show DE _ _ (Expr.Call (Expr.Name "repr" _) _ _ _) _ _ _); refine de_repr ?_ (by assumption)) | ((with_reducible show DE _ _ (Expr.Call (Expr.Name "divmod" _) _ _ _) _ _ _); refine de_divmod ?_ (by assumption)) | ((with_reducible show DE _ _ (Expr.Call (Expr.Name "list" _) _ _ _) _ _ _); refine de_clist ?_ (by assumption)) | ((with_reducible show DE _ _ (Expr.Call (Expr.Name "tuple" _) _ _ _) _ _ _); refine de_ctuple ?_ (by assumption)) | walk_at "down") | ((with_reducible show DE _ _ (Expr.BinOp _ _ _ _) _ _ _); refine de_op ?_) | ((with_reducible show DE _ _ (Expr.Compare _ [_] _ _) _ _ _); refine de_cmp ?_) | ((with_reducible show DE _ _ (Expr.Compare _ [_, _] _ _) _ _ _); refine de_chain ?_) | ((with_reducible show DE _ _ (Expr.Subscript _ (Expr.Slice _ _ _ _) _) _ _ _); refine de_slice ?_) | ((with_reducible show DE _ _ (Expr.Subscript _ _ _) _ _ _); refine de_ix ?_) | ((with_reducible show DE _ _ (Expr.BoolOp _ [_] _) _ _ _); refine de_one ?_) | ((with_reducible show DE _ _ (Expr.BoolOp BoolOp.And _ _) _ _ _); refine de_and ?_) | ((with_reducible show DE _ _ (Expr.BoolOp BoolOp.Or _ _) _ _ _); refine de_or ?_) | ((with_reducible show DE _ _ (Expr.UnaryOp UnaryOp.Not _ _) _ _ _); refine de_not ?_) | ((with_reducible show DE _ _ (Expr.UnaryOp _ _ _) _ _ _); refine de_un ?_) | ((with_reducible show DE _ _ (Expr.IfExp _ _ _ _) _ _ _); refine de_ifx ?_) | ((with_reducible show DE _ _ (Expr.Tuple _ _ _) _ _ _); refine de_tup ?_) | ((with_reducible show DE _ _ (Expr.List _ _) _ _ _); walk_at "dlst") | ((with_reducible show DE _ _ (Expr.Dict [] [] _) _ _ _); refine de_dict0 ?_) | walk_at "dhook")
    | ((with_reducible show DA _ _ _ _ _ _); first | ((with_reducible show DA _ _ [] _ _ _); refine da_nil ?_) | ((with_reducible show DA _ _ (_ :: _) _ _ _); refine da_cons ?_))
    | ((with_reducible show BoolR _ _); refine ⟨_, rfl, ?_⟩)
    | ((with_reducible show (_ = true → _) ∧ (_ = false → _)); (refine ⟨fun h => ?_, fun h => ?_⟩ <;> try (exact Bool.noConfusion h)))
    | ((with_reducible show OpD _ _ _ _ _ _ _); first | ((with_reducible show OpD _ _ (binaryOp Operator.Add) _ _ _ _); first | refine op_addI ?_ | refine op_addT ?_) | ((with_reducible show OpD _ _ (binaryOp Operator.Sub) _ _ _ _); refine op_subI ?_) | ((with_reducible show OpD _ _ (binaryOp Operator.Mod) _ _ _ _); refine op_modI (by first | decide | assumption) ?_) | ((with_reducible show OpD _ _ (binaryOp Operator.Mult) _ _ _ _); refine op_mulI (by first | exact .inr (by decide) | exact .inl (by decide) | (exact .inl (by omega))) ?_) | ((with_reducible show OpD _ _ (binaryOp Operator.Pow) _ _ _ _); refine op_powI (by decide) (by decide) (by decide) ?_) | ((with_reducible show OpD _ _ (binaryOp Operator.FloorDiv) _ _ _ _); refine op_fdivI (by decide) (by decide) ?_) | ((with_reducible show OpD _ _ (compareOp CmpOp.Lt) _ _ _ _); refine op_ltI ?_) | ((with_reducible show OpD _ _ (compareOp CmpOp.LtE) _ _ _ _); first | refine op_leI ?_ | refine op_leS ?_) | ((with_reducible show OpD _ _ (compareOp CmpOp.Gt) _ _ _ _); refine op_gtI ?_) | ((with_reducible show OpD _ _ (compareOp CmpOp.GtE) _ _ _ _); refine op_geI ?_) | ((with_reducible show OpD _ _ (compareOp CmpOp.Eq) _ _ _ _); first | refine op_eqI ?_ | refine op_eqS ?_) | ((with_reducible show OpD _ _ (compareOp CmpOp.NotEq) _ _ _ _); first | refine op_neI ?_ | refine op_neS ?_))
    | ((with_reducible show CaD _ _ _ _ _ _); first | ((with_reducible show CaD _ _ (Value.builtin "isinstance") [_, SV.ty "int"] _ _); refine ca_isi (by assumption) (kit_int _ (by assumption)) ?_) | ((with_reducible show CaD _ _ (Value.builtin "isinstance") [_, SV.ty "bool"] _ _); refine ca_isi (by assumption) (kit_bool _ (by assumption)) ?_) | ((with_reducible show CaD _ _ (Value.builtin "isinstance") [_, SV.ty "str"] _ _); refine ca_isi (by assumption) (kit_str _ (by assumption)) ?_) | ((with_reducible show CaD _ _ (Value.builtin "isinstance") [_, SV.ty "tuple"] _ _); refine ca_isi (by assumption) (kit_tuple _ (by assumption)) ?_) | ((with_reducible show CaD _ _ (Value.builtin "isinstance") [_, SV.ty "list"] _ _); refine ca_isi (by assumption) (kit_list _ (by assumption)) ?_) | ((with_reducible show CaD _ _ (Value.builtin "isinstance") [_, SV.ty "dict"] _ _); refine ca_isi (by assumption) (kit_dict _ (by assumption)) ?_) | ((with_reducible show CaD _ _ (Value.builtin "max") _ _ _); refine ca_max2 rfl ?_) | ((with_reducible show CaD _ _ (Value.builtin "min") _ _ _); refine ca_min2 rfl ?_) | ((with_reducible show CaD _ _ (Value.builtin "len") _ _ _); first | refine ca_lenT ?_ | refine ca_lenS (by assumption) ?_ | refine ca_lenSc ?_ | refine ca_lenL (.inl rfl) ?_) | ((with_reducible show CaD _ _ (Value.type "list") _ _ _); refine ca_listT ?_) | ((with_reducible show CaD _ _ (Value.builtin "divmod") _ _ _); refine ca_divmod (by assumption) (by omega) ?_) | walk_at "dca")
    | ((with_reducible show DT _ _ _ _ _ _); first | ((with_reducible show DT _ _ (Expr.BoolOp _ _ _) _ _ _); refine dt_w ?_) | ((with_reducible show DT _ _ (Expr.UnaryOp UnaryOp.Not _ _) _ _ _); refine dt_not ?_) | ((with_reducible show DT _ _ (Expr.Compare _ [_] _ _) _ _ _); refine dt_cmp ?_) | ((with_reducible show DT _ _ (Expr.Compare _ [_, _] _ _) _ _ _); refine dt_chain ?_) | refine dt_val ?_)
    | ((with_reducible show DW _ _ _ _ _ _); first | ((with_reducible show DW _ _ (Expr.BoolOp BoolOp.And [_] _) _ _ _); refine dw_and1 ?_) | ((with_reducible show DW _ _ (Expr.BoolOp BoolOp.Or [_] _) _ _ _); refine dw_or1 ?_) | ((with_reducible show DW _ _ (Expr.BoolOp BoolOp.And _ _) _ _ _); refine dw_and ?_) | ((with_reducible show DW _ _ (Expr.BoolOp BoolOp.Or _ _) _ _ _); refine dw_or ?_))
    | ((with_reducible show DSs _ _ _ _ _ _); first | ((with_reducible show DSs _ _ [] _ _ _); refine dss_nil ?_) | ((with_reducible show DSs _ _ [_] _ _ _); refine dss_one ?_) | ((with_reducible show DSs _ _ (_ :: _) _ _ _); refine dss_cons ?_))
    | ((with_reducible show DS _ _ _ _ _ _); first | ((with_reducible show DS _ _ (Stmt.Return (some _) _) _ _ _); refine ds_ret ?_) | ((with_reducible show DS _ _ (Stmt.If _ _ _ _) _ _ _); refine ds_if ?_) | ((with_reducible show DS _ _ (Stmt.Expr _ _) _ _ _); refine ds_expr ?_) | ((with_reducible show DS _ _ (Stmt.Assign [Expr.Name _ _] _ _) _ _ _); walk_at "dset"))
    | ((with_reducible show DP _ _ none _ _ _); refine dp_none ?_)
    | ((with_reducible show DP _ _ (some _) _ _ _); refine dp_some ?_)
    | ((with_reducible show ∃ d, SV.dat _ = SV.dat d ∧ Fi d ∧ _); refine ⟨_, rfl, by assumption, ?_⟩)
    | ((with_reducible show ∃ i, SV.dat (Dt.int _) = SV.dat (Dt.int i) ∧ _); refine ⟨_, rfl, ?_⟩)
    | ((with_reducible show SlD _ _ (SV.dat (Dt.tup _)) _ _ _ _); refine sl_dT ?_)
    | ((with_reducible show ∃ ds, undat _ = some ds ∧ ds.length ≤ 1000 ∧ _); refine ⟨_, rfl, Nat.le_of_ble_eq_true rfl, ?_⟩)
    | ((with_reducible show ∃ q, SV.at _ = SV.at q ∧ _); refine ⟨_, rfl, ?_⟩)
    | ((with_reducible show ∃ z, SV.dat (Dt.str _) = SV.dat (Dt.str z) ∧ _); refine ⟨_, rfl, ?_⟩)
    | ((with_reducible show IxD _ _ (SV.at _) (SV.dat (Dt.int 0)) _ _); refine ix_pot0 (by assumption) (fun _ _ => ?_))
    | ((with_reducible show IxD _ _ (SV.at _) (SV.dat (Dt.int 1)) _ _); refine ix_pot1 (by assumption) (fun _ _ _ => ?_))
    | ((with_reducible show UnD _ _ (unaryOp UnaryOp.USub) _ _ _); refine un_negI ?_)
    | ((with_reducible show Po.nx _ _ _); dsimp only)
    | ((with_reducible show Po.rt _ _ _); dsimp only))
local macro_rules
  | `(tactic| walk_at "drun") => `(tactic| repeat' (walk_at "dstep"))

/-! ### what is put together is good -/
def Sc (d : Dt) : Prop := fine 64 30 0 d
theorem Sc.plain {d : Dt} (h : Sc d) : hasDic d = false ∧ hasLst d = false := by
  cases d with
  | lst _ => exact h.elim
  | tup _ => exact h.elim
  | dic _ _ => exact h.elim
  | obj _ _ _ => exact h.elim
  | _ => simp [hasDic, hasLst]
theorem Sc.odd {d : Dt} (h : Sc d) : Odd d := ⟨fine_up 1 d (fine_up 0 d h), fun g => by rw [h.plain.1] at g; cases g⟩
theorem Odd.good {d : Dt} (h : Odd d) : Good d := ⟨fine_up 2 d h.1, h.2⟩
theorem hasDicA_ex : ∀ ys : List Dt, hasDicA ys = true → ∃ d, d ∈ ys ∧ hasDic d = true
  | d :: ds, h => by
    rw [hasDicA, Bool.or_eq_true] at h
    rcases h with h | h
    · exact ⟨d, List.mem_cons_self, h⟩
    · obtain ⟨e, h1, h2⟩ := hasDicA_ex ds h
      exact ⟨e, List.mem_cons_of_mem _ h1, h2⟩
theorem hasLstA_ex : ∀ ys : List Dt, hasLstA ys = true → ∃ d, d ∈ ys ∧ hasLst d = true
  | d :: ds, h => by
    rw [hasLstA, Bool.or_eq_true] at h
    rcases h with h | h
    · exact ⟨d, List.mem_cons_self, h⟩
    · obtain ⟨e, h1, h2⟩ := hasLstA_ex ds h
      exact ⟨e, List.mem_cons_of_mem _ h1, h2⟩
theorem mix_good {ys : List Dt} {o : Dt} (ho : Odd o) (hl : ys.length ≤ 30) (h : ∀ d, d ∈ ys → Sc d ∨ d = o) : Good (.tup ys) := by
  have f : ∀ d, d ∈ ys → fine 64 30 2 d := fun d hd => by
    rcases h d hd with g | rfl
    · exact g.odd.1
    · exact ho.1
  refine ⟨⟨hl, f⟩, fun g => ?_⟩
  rw [hasDic] at g
  obtain ⟨e, he, hde⟩ := hasDicA_ex ys g
  have eo : hasDic o = true := by
    rcases h e he with z | rfl
    · rw [z.plain.1] at hde; cases hde
    · exact hde
  have lo := ho.2 eo
  rw [hasLst]
  cases hc : hasLstA ys with
  | false => rfl
  | true =>
    obtain ⟨e2, he2, hle⟩ := hasLstA_ex ys hc
    rcases h e2 he2 with z | rfl
    · rw [z.plain.2] at hle; cases hle
    · rw [lo] at hle; cases hle
theorem scs_good {ys : List Dt} (hl : ys.length ≤ 30) (h : ∀ d, d ∈ ys → Sc d) : Good (.tup ys) := mix_good (o := .non) (Sc.odd (d := .non) trivial) hl fun d hd => .inl (h d hd)
theorem lst_good {ys : List Dt} (hl : ys.length ≤ 30) (h : ∀ d, d ∈ ys → Sc d) : Good (.lst ys) := by
  refine ⟨⟨hl, fun d hd => (h d hd).odd.1⟩, fun g => ?_⟩
  rw [hasDic] at g
  obtain ⟨e, he, hde⟩ := hasDicA_ex ys g
  rw [(h e he).plain.1] at hde
  cases hde
theorem one_good {ys : List Dt} (hl : ys.length ≤ 30) (h : ∀ d, d ∈ ys → Sc d) : Good (.tup [.tup ys]) := by
  have g1 := scs_good hl h
  refine ⟨⟨by simp, fun d hd => ?_⟩, fun g => ?_⟩
  · rw [List.mem_singleton.mp hd]
    exact ⟨hl, fun e he => fine_up 0 e (h e he)⟩
  · have g2 : hasDic (.tup ys) = true := by simpa [hasDic, hasDicA] using g
    have g3 := g1.2 g2
    simpa [hasLst, hasLstA] using g3
theorem cutD_mem {ds : List Dt} {lo hi : Option Int} {d : Dt} (h : d ∈ Dat.cutD ds lo hi) : d ∈ ds := List.mem_of_mem_drop (List.mem_of_mem_take h)
theorem cutD_len (ds : List Dt) (lo hi : Option Int) : (Dat.cutD ds lo hi).length ≤ ds.length := by
  unfold Dat.cutD
  rw [List.length_take, List.length_drop]
  omega
def okSp : List Dt → Prop := fun ds => ∃ xs : List Dt, ds = [.tup xs] ∧ xs.length ≤ 10 ∧ ∀ d, d ∈ xs → Sc d
def spSpoilt : Sp := QSp okSp fun _ r => Good r
set_option hygiene false in
local macro_rules
  | `(tactic| walk_at "down") => `(tactic| first | ((with_reducible show DE _ _ (Expr.Call (Expr.Name "_law_take" _) _ _ _) _ _ _); refine de_take oTake hr (by decide) hg ?_) | ((with_reducible show DE _ _ (Expr.Call (Expr.Name "_law_odd" _) _ _ _) _ _ _); refine de_q0 oOdd hr (by decide) hg ?_))
section
variable {P : Program} {w : World} {K : PySem.W.Frag} {mg : Str → Option Value} {base : Heap}
abbrev sSpoilt : Stmt := top 22
abbrev nSpoilt : List Str := ["_law_pot_here", "_law_thing", "_law_way", "_law_odd_here", "_law_at", "_law_far"]
theorem scSpoilt : FnScope nSpoilt ["_law_pot_here", "_law_thing"] (defScope sSpoilt) := ⟨rfl, rfl, rfl, by decide +kernel, rfl, by decide +kernel, by decide +kernel⟩
theorem ok_spoilt {f : Addr} {fd : FuncData} (F : Fun K "_law_spoilt" "_law_spoilt" sSpoilt f fd) (T : Txt mg) (oTake : Own P w K mg base "_law_take" 1 spTake) (oOdd : Own P w K mg base "_law_odd" 2 spOdd) : FnG P w K mg base 3 f fd ["_law_pot_here", "_law_thing"] spSpoilt := by
  refine fn_pot F scSpoilt (fun ds ⟨xs, e, _⟩ => by rw [e]; rfl) fun cdv A outer s H hr hg w' p ds μ hp ⟨xs, e, hl, hx⟩ => ?_
  subst e
  obtain ⟨t1, t2, t3, t4, t5, t6, t7, t8, t9, t10, t11, t12, t13, t14, t15, t16, t17, t18⟩ := T
  have hN : nSpoilt.Nodup := by decide +kernel
  refine dss_cons (ds_par 2 3 rfl hN ?_)
  walk_at "drun"
  refine ⟨hp, ⟨by decide, by decide⟩, fun v hv0 hv1 => ?_⟩
  walk_at "drun"
  refine ⟨hp, fun o ho => ?_⟩
  walk_at "drun"
  refine ⟨_, _, rfl, ?_⟩
  walk_at "drun"
  refine ds_set 4 hN ?_
  walk_at "drun"
  refine ⟨hp, ⟨by omega, by omega⟩, fun a ha0 ha1 => ?_⟩
  walk_at "drun"
  refine ds_set 5 hN ?_
  walk_at "drun"
  refine ⟨hp, ⟨by decide, by decide⟩, fun u hu0 hu1 => ?_⟩
  obtain ⟨c, hc, hat⟩ := atI_some [.int 12, .int 11, .int 6, .int 7, .int (-1), .int (10 ^ Int.toNat 20), .int (-(10 ^ Int.toNat 20)), .int 2] u hu0 (by simpa using hu1)
  have hcs : Sc c := by
    have h : ([.int 12, .int 11, .int 6, .int 7, .int (-1), .int (10 ^ Int.toNat 20), .int (-(10 ^ Int.toNat 20)), .int 2] : List Dt).all (fineB 0) = true := by decide +kernel
    exact fine_of 0 c (List.all_eq_true.mp h c hc)
  refine ix_dL (.inl rfl) hat ?_
  have l1 := cutD_len xs none (some a)
  have l2 := cutD_len xs (some (a + 1)) none
  have l3 := cutD_len xs (some a) none
  have l4 := cutD_len xs (some 1) none
  walk_at "drun"
  · refine op_addT (small_ok (by simp; omega)) ?_
    walk_at "drun"
    refine op_addT (small_ok (by simp; omega)) ?_
    refine ⟨_, rfl, mix_good ho (by simp; omega) fun d hd => ?_, Mus.Sub.refl _⟩
    simp only [List.mem_append, List.mem_singleton] at hd
    rcases hd with (h | h) | h
    · exact .inl (hx d (cutD_mem h))
    · exact .inr h
    · exact .inl (hx d (cutD_mem h))
  · refine op_addT (small_ok (by simp; omega)) ?_
    walk_at "drun"
    refine op_addT (small_ok (by simp; omega)) ?_
    refine ⟨_, rfl, mix_good hcs.odd (by simp; omega) fun d hd => ?_, Mus.Sub.refl _⟩
    simp only [List.mem_append, List.mem_singleton] at hd
    rcases hd with (h | h) | h
    · exact .inl (hx d (cutD_mem h))
    · exact .inr h
    · exact .inl (hx d (cutD_mem h))
  · refine op_addT (small_ok (by simp; omega)) ?_
    walk_at "drun"
    refine op_addT (small_ok (by simp; omega)) ?_
    refine ⟨_, rfl, mix_good hcs.odd (by simp; omega) fun d hd => ?_, Mus.Sub.refl _⟩
    simp only [List.mem_append, List.mem_singleton] at hd
    rcases hd with (h | h) | h
    · exact .inl (hx d (cutD_mem h))
    · exact .inr h
    · exact .inl (hx d (cutD_mem h))
  · rename_i h0 h1 h2
    have h0' := of_decide_eq_false h0
    have h1' := of_decide_eq_false h1
    have h2' := of_decide_eq_false h2
    refine op_addT (small_ok (by omega)) ?_
    walk_at "drun"
    obtain ⟨d, hd, hat⟩ := atI_some [.lst xs, .tup (Dat.cutD xs (some 1) none), .tup (xs ++ xs), .tup [.tup xs], o] (v - 3) (by omega) (by simp; omega)
    refine ix_dL (.inl rfl) hat ⟨_, rfl, ?_, Mus.Sub.refl _⟩
    simp only [List.mem_cons, List.not_mem_nil, or_false] at hd
    rcases hd with rfl | rfl | rfl | rfl | rfl
    · exact lst_good (by omega) hx
    · exact scs_good (by omega) fun d hd => hx d (cutD_mem hd)
    · exact scs_good (by simp; omega) fun d hd => (List.mem_append.mp hd).elim (hx d) (hx d)
    · exact one_good (by omega) hx
    · exact ho.good
end
end K11

set_option Elab.async false
set_option linter.all false
set_option maxRecDepth 100000
set_option maxHeartbeats 4000000
namespace K11
open PySem PySem.Spec PyProof.Rows L2 Dat
local macro_rules
  | `(tactic| walk_at "down") => `(tactic| fail "none")
local macro_rules
  | `(tactic| walk_at "dset") => `(tactic| fail "none")
local macro_rules
  | `(tactic| walk_at "dhook") => `(tactic| fail "none")
local macro_rules
  | `(tactic| walk_at "dca") => `(tactic| fail "none")
local macro_rules
  | `(tactic| walk_at "dlst") => `(tactic| refine de_lst ?_)
local macro_rules
  | `(tactic| walk_at "dstep") => `(tactic| first
    | ((with_reducible show DE _ _ _ _ _ _); first | ((with_reducible show DE _ _ (Expr.Name _ _) _ _ _); first | ((with_reducible show DE _ _ (Expr.Name "int" _) _ _ _); refine de_ty_int (by assumption) ?_) | ((with_reducible show DE _ _ (Expr.Name "str" _) _ _ _); refine de_ty_str (by assumption) ?_) | ((with_reducible show DE _ _ (Expr.Name "bool" _) _ _ _); refine de_ty_bool (by assumption) ?_) | ((with_reducible show DE _ _ (Expr.Name "tuple" _) _ _ _); refine de_ty_tuple (by assumption) ?_) | ((with_reducible show DE _ _ (Expr.Name "list" _) _ _ _); refine de_ty_list (by assumption) ?_) | ((with_reducible show DE _ _ (Expr.Name "dict" _) _ _ _); refine de_ty_dict (by assumption) ?_) | refine de_nm rfl ?_ | refine de_globI (by assumption) ?_) | ((with_reducible show DE _ _ (Expr.Constant _ _ _) _ _ _); first | refine de_int ?_ | refine de_str ?_ | refine de_bl ?_ | refine de_non ?_) | ((with_reducible show DE _ _ (Expr.Call (Expr.Name _ _) _ _ _) _ _ _); first | ((with_reducible show DE _ _ (Expr.Call (Expr.Name "isinstance" _) _ _ _) _ _ _); refine de_isinstance ?_ (by assumption)) | ((with_reducible show DE _ _ (Expr.Call (Expr.Name "len" _) _ _ _) _ _ _); refine de_len ?_ (by assumption)) | ((with_reducible show DE _ _ (Expr.Call (Expr.Name "max" _) _ _ _) _ _ _); refine de_max ?_ (by assumption)) | ((with_reducible show DE _ _ (Expr.Call (Expr.Name "min" _) _ _ _) _ _ _); refine de_min ?_ (by assumption)) | ((with_reducible show DE _ _ (Expr.Call (Expr.Name "all" _) _ _ _) _ _ _); refine de_all ?_ (by assumption)) | ((with_reducible show DE _ _ (Expr.Call (Expr.Name "repr" _) _ _ _) _ _ _); refine de_repr ?_ (by assumption)) | ((with_reducible show DE _ _ (Expr.Call (Expr.Name "divmod" _) _ _ _) _ _ _); refine de_divmod ?_ (by assumption)) | ((with_reducible show DE _ _ (Expr.Call (Expr.Name "list" _) _ _ _) _ _ _); refine de_clist ?_ (by assumption)) | ((with_reducible show DE _ _ (Expr.Call (Expr.Name "tuple" _) _ _ _) _ _ _); refine de_ctuple ?_ (by assumption)) | walk_at "down") | ((with_reducible show DE _ _ (Expr.BinOp _ _ _ _) _ _ _); refine de_op ?_) | ((with_reducible show DE _ _ (Expr.Compare _ [_] _ _) _ _ _); refine de_cmp ?_) | ((with_reducible show DE _ _ (Expr.Compare _ [_, _] _ _) _ _ _); refine de_chain ?_) | ((with_reducible show DE _ _ (Expr.Subscript _ (Expr.Slice _ _ _ _) _) _ _ _); refine de_slice ?_) | ((with_reducible show DE _ _ (Expr.Subscript _ _ _) _ _ _); refine de_ix ?_) | ((with_reducible show DE _ _ (Expr.BoolOp _ [_] _) _ _ _); refine de_one ?_) | ((with_reducible show DE _ _ (Expr.BoolOp BoolOp.And _ _) _ _ _); refine de_and ?_) | ((with_reducible show DE _ _ (Expr.BoolOp BoolOp.Or _ _) _ _ _); refine de_or ?_) | ((with_reducible show DE _ _ (Expr.UnaryOp UnaryOp.Not _ _) _ _ _); refine de_not ?_) | ((with_reducible show DE _ _ (Expr.UnaryOp _ _ _) _ _ _); refine de_un ?_) | ((with_reducible show DE _ _ (Expr.IfExp _ _ _ _) _ _ _); refine de_ifx ?_) | ((with_reducible show DE _ _ (Expr.Tuple _ _ _) _ _ _); refine de_tup ?_) | ((with_reducible show DE _ _ (Expr.List _ _) _ _ _); walk_at "dlst") | ((with_reducible show DE _ _ (Expr.Dict [] [] _) _ _ _); refine de_dict0 ?_) | walk_at "dhook")
    | ((with_reducible show DA _ _ _ _ _ _); first | ((with_reducible show DA _ _ [] _ _ _); refine da_nil ?_) | ((with_reducible show DA _ _ (_ :: _) _ _ _); refine da_cons ?_))
    | ((with_reducible show BoolR _ _); refine ⟨_, rfl, ?_⟩)
    | ((with_reducible show (_ = true → _) ∧ (_ = false → _)); (refine ⟨fun h => ?_, fun h => ?_⟩ <;> try (exact Bool.noConfusion h)))
    | ((with_reducible show OpD _ _ _ _ _ _ _); first | ((with_reducible show OpD _ _ (binaryOp Operator.Add) _ _ _ _); first | refine op_addI ?_ | refine op_addT ?_) | ((with_reducible show OpD _ _ (binaryOp Operator.Sub) _ _ _ _); refine op_subI ?_) | ((with_reducible show OpD _ _ (binaryOp Operator.Mod) _ _ _ _); refine op_modI (by first | decide | assumption) ?_) | ((with_reducible show OpD _ _ (binaryOp Operator.Mult) _ _ _ _); refine op_mulI (by first | exact .inr (by decide) | exact .inl (by decide) | (exact .inl (by omega))) ?_) | ((with_reducible show OpD _ _ (binaryOp Operator.Pow) _ _ _ _); refine op_powI (by decide) (by decide) (by decide) ?_) | ((with_reducible show OpD _ _ (binaryOp Operator.FloorDiv) _ _ _ _); refine op_fdivI (by decide) (by decide) ?_) | ((with_reducible show OpD _ _ (compareOp CmpOp.Lt) _ _ _ _); refine op_ltI ?_) | ((with_reducible show OpD _ _ (compareOp CmpOp.LtE) _ _ _ _); first | refine op_leI ?_ | refine op_leS ?_) | ((with_reducible show OpD _ _ (compareOp CmpOp.Gt) _ _ _ _); refine op_gtI ?_) | ((with_reducible show OpD _ _ (compareOp CmpOp.GtE) _ _ _ _); refine op_geI ?_) | ((with_reducible show OpD _ _ (compareOp CmpOp.Eq) _ _ _ _); first | refine op_eqI ?_ | refine op_eqS ?_) | ((with_reducible show OpD _ _ (compareOp CmpOp.NotEq) _ _ _ _); first | refine op_neI ?_ | refine op_neS ?_))
    | ((with_reducible show CaD _ _ _ _ _ _); first | ((with_reducible show CaD _ _ (Value.builtin "isinstance") [_, SV.ty "int"] _ _); refine ca_isi (by assumption) (kit_int _ (by assumption)) ?_) | ((with_reducible show CaD _ _ (Value.builtin "isinstance") [_, SV.ty "bool"] _ _); refine ca_isi (by assumption) (kit_bool _ (by assumption)) ?_) | ((with_reducible show CaD _ _ (Value.builtin "isinstance") [_, SV.ty "str"] _ _); refine ca_isi (by assumption) (kit_str _ (by assumption)) ?_) | ((with_reducible show CaD _ _ (Value.builtin "isinstance") [_, SV.ty "tuple"] _ _); refine ca_isi (by assumption) (kit_tuple _ (by assumption)) ?_) | ((with_reducible show CaD _ _ (Value.builtin "isinstance") [_, SV.ty "list"] _ _); refine ca_isi (by assumption) (kit_list _ (by assumption)) ?_) | ((with_reducible show CaD _ _ (Value.builtin "isinstance") [_, SV.ty "dict"] _ _); refine ca_isi (by assumption) (kit_dict _ (by assumption)) ?_) | ((with_reducible show CaD _ _ (Value.builtin "max") _ _ _); refine ca_max2 rfl ?_) | ((with_reducible show CaD _ _ (Value.builtin "min") _ _ _); refine ca_min2 rfl ?_) | ((with_reducible show CaD _ _ (Value.builtin "len") _ _ _); first | refine ca_lenT ?_ | refine ca_lenS (by assumption) ?_ | refine ca_lenSc ?_ | refine ca_lenL (.inl rfl) ?_) | ((with_reducible show CaD _ _ (Value.type "list") _ _ _); refine ca_listT ?_) | ((with_reducible show CaD _ _ (Value.builtin "divmod") _ _ _); refine ca_divmod (by assumption) (by omega) ?_) | walk_at "dca")
    | ((with_reducible show DT _ _ _ _ _ _); first | ((with_reducible show DT _ _ (Expr.BoolOp _ _ _) _ _ _); refine dt_w ?_) | ((with_reducible show DT _ _ (Expr.UnaryOp UnaryOp.Not _ _) _ _ _); refine dt_not ?_) | ((with_reducible show DT _ _ (Expr.Compare _ [_] _ _) _ _ _); refine dt_cmp ?_) | ((with_reducible show DT _ _ (Expr.Compare _ [_, _] _ _) _ _ _); refine dt_chain ?_) | refine dt_val ?_)
    | ((with_reducible show DW _ _ _ _ _ _); first | ((with_reducible show DW _ _ (Expr.BoolOp BoolOp.And [_] _) _ _ _); refine dw_and1 ?_) | ((with_reducible show DW _ _ (Expr.BoolOp BoolOp.Or [_] _) _ _ _); refine dw_or1 ?_) | ((with_reducible show DW _ _ (Expr.BoolOp BoolOp.And _ _) _ _ _); refine dw_and ?_) | ((with_reducible show DW _ _ (Expr.BoolOp BoolOp.Or _ _) _ _ _); refine dw_or ?_))
    | ((with_reducible show DSs _ _ _ _ _ _); first | ((with_reducible show DSs _ _ [] _ _ _); refine dss_nil ?_) | ((with_reducible show DSs _ _ [_] _ _ _); refine dss_one ?_) | ((with_reducible show DSs _ _ (_ :: _) _ _ _); refine dss_cons ?_))
    | ((with_reducible show DS _ _ _ _ _ _); first | ((with_reducible show DS _ _ (Stmt.Return (some _) _) _ _ _); refine ds_ret ?_) | ((with_reducible show DS _ _ (Stmt.If _ _ _ _) _ _ _); refine ds_if ?_) | ((with_reducible show DS _ _ (Stmt.Expr _ _) _ _ _); refine ds_expr ?_) | ((with_reducible show DS _ _ (Stmt.Assign [Expr.Name _ _] _ _) _ _ _); walk_at "dset"))
    | ((with_reducible show DP _ _ none _ _ _); refine dp_none ?_)
    | ((with_reducible show DP _ _ (some _) _ _ _); refine dp_some ?_)
    | ((with_reducible show ∃ d, SV.dat _ = SV.dat d ∧ Fi d ∧ _); refine ⟨_, rfl, by assumption, ?_⟩)
    | ((with_reducible show ∃ i, SV.dat (Dt.int _) = SV.dat (Dt.int i) ∧ _); refine ⟨_, rfl, ?_⟩)
    | ((with_reducible show SlD _ _ (SV.dat (Dt.tup _)) _ _ _ _); refine sl_dT ?_)
    | ((with_reducible show ∃ ds, undat _ = some ds ∧ ds.length ≤ 1000 ∧ _); refine ⟨_, rfl, Nat.le_of_ble_eq_true rfl, ?_⟩)
    | ((with_reducible show ∃ q, SV.at _ = SV.at q ∧ _); refine ⟨_, rfl, ?_⟩)
    | ((with_reducible show ∃ z, SV.dat (Dt.str _) = SV.dat (Dt.str z) ∧ _); refine ⟨_, rfl, ?_⟩)
    | ((with_reducible show IxD _ _ (SV.at _) (SV.dat (Dt.int 0)) _ _); refine ix_pot0 (by assumption) (fun _ _ => ?_))
    | ((with_reducible show IxD _ _ (SV.at _) (SV.dat (Dt.int 1)) _ _); refine ix_pot1 (by assumption) (fun _ _ _ => ?_))
    | ((with_reducible show UnD _ _ (unaryOp UnaryOp.USub) _ _ _); refine un_negI ?_)
    | ((with_reducible show Po.nx _ _ _); dsimp only)
    | ((with_reducible show Po.rt _ _ _); dsimp only))
local macro_rules
  | `(tactic| walk_at "drun") => `(tactic| repeat' (walk_at "dstep"))

/-! ### things near a name -/
def Tx (n : Nat) (x : Str) : Prop := x.length ≤ n ∧ ∀ c, c ∈ x.cps.toList → c < 256
theorem Tx.sc {n : Nat} {x : Str} (h : Tx n x) (hn : n ≤ 64) : Sc (.str x) := ⟨Nat.le_trans h.1 hn, h.2⟩
theorem tx_S {l : List Nat} {n : Nat} (h : l.length ≤ n) (hc : ∀ c, c ∈ l → c < 256) : Tx n (SX.S l) := ⟨by rw [SX.S_len]; exact h, hc⟩
theorem Nm.tx {l : List Nat} (h : Nm l) : Tx 8 (SX.S l) := tx_S h.2.1 fun c hc => by have := h.2.2 c hc; omega
theorem tx_app {m n : Nat} {x y : Str} (hx : Tx m x) (hy : Tx n y) : Tx (m + n) (x ++ y) := by
  rw [← SX.S_tl x, ← SX.S_tl y, SX.S_cat]
  refine tx_S ?_ fun c hc => ?_
  · rw [List.length_append, Array.length_toList, Array.length_toList]
    exact Nat.add_le_add hx.1 hy.1
  · rcases List.mem_append.mp hc with h | h
    · exact hx.2 c h
    · exact hy.2 c h
theorem tx_cut {n : Nat} {x : Str} (hx : Tx n x) (lo hi : Option Int) : Tx n (cutS x lo hi) := ⟨Nat.le_trans (cut_len x lo hi) hx.1, fun c hc => hx.2 c (List.mem_of_mem_drop (List.mem_of_mem_take hc))⟩
theorem up1_le (c : Nat) : up1 c ≤ c := by
  unfold up1
  split <;> omega
theorem tx_up {l : List Nat} (h : Nm l) : Tx 8 (Txt.upper (SX.S l)) := by
  rw [SX.upper_S (List.all_eq_true.mpr fun c hc => decide_eq_true (by have := h.2.2 c hc; omega))]
  refine tx_S (by rw [List.length_map]; exact h.2.1) fun c hc => ?_
  obtain ⟨d, hd, rfl⟩ := List.mem_map.mp hc
  have := h.2.2 d hd
  have := up1_le d
  omega
theorem tx_a8 : Tx 8 (Txt.mul "a" 8) := by
  have e : Txt.mul "a" 8 = SX.S (List.replicate 8 97) := by decide +kernel
  rw [e]
  exact tx_S (by decide) (by decide)
theorem mul_a8 : MulOk "a" 8 := ⟨by decide, fun _ _ => by decide, fun _ _ => by decide⟩
theorem tx_lit (s : Str) (h : (decide (s.length ≤ 1) && s.cps.toList.all fun c => decide (c < 256)) = true) : Tx 1 s := by
  rw [Bool.and_eq_true, decide_eq_true_eq, List.all_eq_true] at h
  exact ⟨h.1, fun c hc => of_decide_eq_true (h.2 c hc)⟩
theorem Sc.good {d : Dt} (h : Sc d) : Good d := h.odd.good
theorem dic_good {x : Str} (h : Sc (.str x)) : Good (.dic [.str x] [.tup []]) := by
  refine ⟨⟨Nat.le_of_ble_eq_true rfl, fun d hd => ?_, fun d hd => ?_⟩, fun _ => by simp [hasLst, hasLstA]⟩
  · rw [List.mem_singleton.mp hd]
    exact h.odd.1
  · rw [List.mem_singleton.mp hd]
    exact ⟨by decide, nofun⟩
def spNear : Sp := QSp (fun ds => ∃ l, ds = [.str (SX.S l)] ∧ Nm l) fun _ r => ∃ ys : List Dt, r = .lst ys ∧ ys.length ≤ 20 ∧ ∀ d, d ∈ ys → Good d
set_option hygiene false in
local macro_rules
  | `(tactic| walk_at "down") => `(tactic| first | ((with_reducible show DE _ _ (Expr.Call (Expr.Name "_law_take" _) _ _ _) _ _ _); refine de_take oTake hr (by decide) hg ?_) | ((with_reducible show DE _ _ (Expr.Call (Expr.Name "_law_odd" _) _ _ _) _ _ _); refine de_q0 oOdd hr (by decide) hg ?_))
section
variable {P : Program} {w : World} {K : PySem.W.Frag} {mg : Str → Option Value} {base : Heap}
abbrev sNear : Stmt := top 23
abbrev nNear : List Str := ["_law_pot_here", "_law_name", "_law_some"]
theorem scNear : FnScope nNear ["_law_pot_here", "_law_name"] (defScope sNear) := ⟨rfl, rfl, rfl, by decide +kernel, rfl, by decide +kernel, by decide +kernel⟩
theorem ok_near {f : Addr} {fd : FuncData} (F : Fun K "_law_near" "_law_near" sNear f fd) (T : Txt mg) (oOdd : Own P w K mg base "_law_odd" 2 spOdd) : FnG P w K mg base 3 f fd ["_law_pot_here", "_law_name"] spNear := by
  refine fn_pot F scNear (fun ds ⟨l, e, _⟩ => by rw [e]; rfl) fun cdv A outer s H hr hg w' p ds μ hp ⟨l, e, hl⟩ => ?_
  subst e
  obtain ⟨t1, t2, t3, t4, t5, t6, t7, t8, t9, t10, t11, t12, t13, t14, t15, t16, t17, t18⟩ := T
  have hN : nNear.Nodup := by decide +kernel
  have hx := hl.tx
  have hu := tx_up hl
  have h8 := hx.1
  have ha8 := tx_a8
  refine dss_cons (ds_set 2 hN ?_)
  walk_at "drun"
  refine op_mulS mul_a8 ?_
  walk_at "drun"
  have hm8 := ha8.1
  have hs1 := (tx_lit " " (by decide))
  have hs2 := (tx_lit "1" (by decide))
  have hs3 := (tx_lit "\n" (by decide))
  have hs1' := hs1.1
  have hs2' := hs2.1
  have hs3' := hs3.1
  refine op_addS (small_ok (by omega)) ?_
  walk_at "drun"
  refine op_addS (small_ok (by omega)) ?_
  walk_at "drun"
  refine de_upper (de_nm rfl ⟨_, rfl, by omega, ?_⟩)
  walk_at "drun"
  refine op_addS (small_ok (by omega)) ?_
  walk_at "drun"
  refine sl_dS (small_ok (by omega)) ?_
  walk_at "drun"
  refine op_addS (small_ok (by omega)) ?_
  walk_at "drun"
  refine op_addS (small_ok (by omega)) ?_
  walk_at "drun"
  refine de_dict1 fun _ => ?_
  walk_at "drun"
  refine ⟨_, rfl, ?_⟩
  walk_at "drun"
  refine ⟨hp, fun o ho => ?_⟩
  walk_at "drun"
  refine op_addL (.inl rfl) (.inl rfl) (small_ok (Nat.le_of_ble_eq_true rfl)) ?_
  refine ⟨_, rfl, ⟨_, rfl, Nat.le_of_ble_eq_true rfl, ?_⟩, Mus.Sub.refl _⟩
  intro d hd
  have hsc := hx.sc (by decide)
  simp only [List.cons_append, List.nil_append, List.mem_cons, List.not_mem_nil, or_false] at hd
  rcases hd with rfl | rfl | rfl | rfl | rfl | rfl | rfl | rfl | rfl | rfl | rfl
  · exact ((tx_app hx ha8).sc (by decide)).good
  · exact ((tx_app hx hs1).sc (by decide)).good
  · exact (hu.sc (by decide)).good
  · exact ((tx_app hs2 hx).sc (by decide)).good
  · exact ((tx_cut hx _ _).sc (by decide)).good
  · exact lst_good (Nat.le_of_ble_eq_true rfl) fun d hd => by rw [List.mem_singleton.mp hd]; exact hsc
  · exact scs_good (Nat.le_of_ble_eq_true rfl) fun d hd => by rw [List.mem_singleton.mp hd]; exact hsc
  · exact ((tx_app hx hx).sc (by decide)).good
  · exact ((tx_app hx hs3).sc (by decide)).good
  · exact dic_good hsc
  · exact ho.good
end
end K11

set_option Elab.async false
set_option linter.all false
set_option maxRecDepth 100000
set_option maxHeartbeats 4000000
namespace K11
open PySem PySem.Spec PyProof.Rows L2 Dat
local macro_rules
  | `(tactic| walk_at "down") => `(tactic| fail "none")
local macro_rules
  | `(tactic| walk_at "dset") => `(tactic| fail "none")
local macro_rules
  | `(tactic| walk_at "dhook") => `(tactic| fail "none")
local macro_rules
  | `(tactic| walk_at "dca") => `(tactic| fail "none")
local macro_rules
  | `(tactic| walk_at "dlst") => `(tactic| refine de_lst ?_)
local macro_rules
  | `(tactic| walk_at "dstep") => `(tactic| first
    | ((with_reducible show DE _ _ _ _ _ _); first | ((with_reducible show DE _ _ (Expr.Name _ _) _ _ _); first | ((with_reducible show DE _ _ (Expr.Name "int" _) _ _ _); refine de_ty_int (by assumption) ?_) | ((with_reducible show DE _ _ (Expr.Name "str" _) _ _ _); refine de_ty_str (by assumption) ?_) | ((with_reducible show DE _ _ (Expr.Name "bool" _) _ _ _); refine de_ty_bool (by assumption) ?_) | ((with_reducible show DE _ _ (Expr.Name "tuple" _) _ _ _); refine de_ty_tuple (by assumption) ?_) | ((with_reducible show DE _ _ (Expr.Name "list" _) _ _ _); refine de_ty_list (by assumption) ?_) | ((with_reducible show DE _ _ (Expr.Name "dict" _) _ _ _); refine de_ty_dict (by assumption) ?_) | refine de_nm rfl ?_ | refine de_globI (by assumption) ?_) | ((with_reducible show DE _ _ (Expr.Constant _ _ _) _ _ _); first | refine de_int ?_ | refine de_str ?_ | refine de_bl ?_ | refine de_non ?_) | ((with_reducible show DE _ _ (Expr.Call (Expr.Name _ _) _ _ _) _ _ _); first | ((with_reducible show DE _ _ (Expr.Call (Expr.Name "isinstance" _) _ _ _) _ _ _); refine de_isinstance ?_ (by assumption)) | ((with_reducible show DE _ _ (Expr.Call (Expr.Name "len" _) _ _ _) _ _ _); refine de_len ?_ (by assumption)) | ((with_reducible show DE _ _ (Expr.Call (Expr.Name "max" _) _ _ _) _ _ _); refine de_max ?_ (by assumption)) | ((with_reducible show DE _ _ (Expr.Call (Expr.Name "min" _) _ _ _) _ _ _); refine de_min ?_ (by assumption)) | ((with_reducible show DE _ _ (Expr.Call (Expr.Name "all" _) _ _ _) _ _ _); refine de_all ?_ (by assumption)) | ((with_reducible show DE _ _ (Expr.Call (Expr.Name "repr" _) _ _ _) _ _ _); refine de_repr ?_ (by assumption)) | ((with_reducible show DE _ _ (Expr.Call (Expr.Name "divmod" _) _ _ _) _ _ _); refine de_divmod ?_ (by assumption)) | ((with_reducible show DE _ _ (Expr.Call (Expr.Name "list" _) _ _ _) _ _ _); refine de_clist ?_ (by assumption)) | ((with_reducible show DE _ _ (Expr.Call (Expr.Name "tuple" _) _ _ _) _ _ _); refine de_ctuple ?_ (by assumption)) | walk_at "down") | ((with_reducible show DE _ _ (Expr.BinOp _ _ _ _) _ _ _); refine de_op ?_) | ((with_reducible show DE _ _ (Expr.Compare _ [_] _ _) _ _ _); refine de_cmp ?_) | ((with_reducible show DE _ _ (Expr.Compare _ [_, _] _ _) _ _ _); refine de_chain ?_) | ((with_reducible show DE _ _ (Expr.Subscript _ (Expr.Slice _ _ _ _) _) _ _ _); refine de_slice ?_) | ((with_reducible show DE _ _ (Expr.Subscript _ _ _) _ _ _); refine de_ix ?_) | ((with_reducible show DE _ _ (Expr.BoolOp _ [_] _) _ _ _); refine de_one ?_) | ((with_reducible show DE _ _ (Expr.BoolOp BoolOp.And _ _) _ _ _); refine de_and ?_) | ((with_reducible show DE _ _ (Expr.BoolOp BoolOp.Or _ _) _ _ _); refine de_or ?_) | ((with_reducible show DE _ _ (Expr.UnaryOp UnaryOp.Not _ _) _ _ _); refine de_not ?_) | ((with_reducible show DE _ _ (Expr.UnaryOp _ _ _) _ _ _); refine de_un ?_) | ((with_reducible show DE _ _ (Expr.IfExp _ _ _ _) _ _ _); refine de_ifx ?_) | ((with_reducible show DE _ _ (Expr.Tuple _ _ _) _ _ _); refine de_tup ?_) | ((with_reducible show DE _ _ (Expr.List _ _) _ _ _); walk_at "dlst") | ((with_reducible show DE _ _ (Expr.Dict [] [] _) _ _ _); refine de_dict0 ?_) | walk_at "dhook")
    | ((with_reducible show DA _ _ _ _ _ _); first | ((with_reducible show DA _ _ [] _ _ _); refine da_nil ?_) | ((with_reducible show DA _ _ (_ :: _) _ _ _); refine da_cons ?_))
    | ((with_reducible show BoolR _ _); refine ⟨_, rfl, ?_⟩)
    | ((with_reducible show (_ = true → _) ∧ (_ = false → _)); (refine ⟨fun h => ?_, fun h => ?_⟩ <;> try (exact Bool.noConfusion h)))
    | ((with_reducible show OpD _ _ _ _ _ _ _); first | ((with_reducible show OpD _ _ (binaryOp Operator.Add) _ _ _ _); first | refine op_addI ?_ | refine op_addT ?_) | ((with_reducible show OpD _ _ (binaryOp Operator.Sub) _ _ _ _); refine op_subI ?_) | ((with_reducible show OpD _ _ (binaryOp Operator.Mod) _ _ _ _); refine op_modI (by first | decide | assumption) ?_) | ((with_reducible show OpD _ _ (binaryOp Operator.Mult) _ _ _ _); refine op_mulI (by first | exact .inr (by decide) | exact .inl (by decide) | (exact .inl (by omega))) ?_) | ((with_reducible show OpD _ _ (binaryOp Operator.Pow) _ _ _ _); refine op_powI (by decide) (by decide) (by decide) ?_) | ((with_reducible show OpD _ _ (binaryOp Operator.FloorDiv) _ _ _ _); refine op_fdivI (by decide) (by decide) ?_) | ((with_reducible show OpD _ _ (compareOp CmpOp.Lt) _ _ _ _); refine op_ltI ?_) | ((with_reducible show OpD _ _ (compareOp CmpOp.LtE) _ _ _ _); first | refine op_leI ?_ | refine op_leS ?_) | ((with_reducible show OpD _ _ (compareOp CmpOp.Gt) _ _ _ _); refine op_gtI ?_) | ((with_reducible show OpD _ _ (compareOp CmpOp.GtE) _ _ _ _); refine op_geI ?_) | ((with_reducible show OpD _ _ (compareOp CmpOp.Eq) _ _ _ _); first | refine op_eqI ?_ | refine op_eqS ?_) | ((with_reducible show OpD _ _ (compareOp CmpOp.NotEq) _ _ _ _); first | refine op_neI ?_ | refine op_neS ?_))
    | ((with_reducible show CaD _ _ _ _ _ _); first | ((with_reducible show CaD _ _ (Value.builtin "isinstance") [_, SV.ty "int"] _ _); refine ca_isi (by assumption) (kit_int _ (by assumption)) ?_) | ((with_reducible show CaD _ _ (Value.builtin "isinstance") [_, SV.ty "bool"] _ _); refine ca_isi (by assumption) (kit_bool _ (by assumption)) ?_) | ((with_reducible show CaD _ _ (Value.builtin "isinstance") [_, SV.ty "str"] _ _); refine ca_isi (by assumption) (kit_str _ (by assumption)) ?_) | ((with_reducible show CaD _ _ (Value.builtin "isinstance") [_, SV.ty "tuple"] _ _); refine ca_isi (by assumption) (kit_tuple _ (by assumption)) ?_) | ((with_reducible show CaD _ _ (Value.builtin "isinstance") [_, SV.ty "list"] _ _); refine ca_isi (by assumption) (kit_list _ (by assumption)) ?_) | ((with_reducible show CaD _ _ (Value.builtin "isinstance") [_, SV.ty "dict"] _ _); refine ca_isi (by assumption) (kit_dict _ (by assumption)) ?_) | ((with_reducible show CaD _ _ (Value.builtin "max") _ _ _); refine ca_max2 rfl ?_) | ((with_reducible show CaD _ _ (Value.builtin "min") _ _ _); refine ca_min2 rfl ?_) | ((with_reducible show CaD _ _ (Value.builtin "len") _ _ _); first | refine ca_lenT ?_ | refine ca_lenS (by assumption) ?_ | refine ca_lenSc ?_ | refine ca_lenL (.inl rfl) ?_) | ((with_reducible show CaD _ _ (Value.type "list") _ _ _); refine ca_listT ?_) | ((with_reducible show CaD _ _ (Value.builtin "divmod") _ _ _); refine ca_divmod (by assumption) (by omega) ?_) | walk_at "dca")
    | ((with_reducible show DT _ _ _ _ _ _); first | ((with_reducible show DT _ _ (Expr.BoolOp _ _ _) _ _ _); refine dt_w ?_) | ((with_reducible show DT _ _ (Expr.UnaryOp UnaryOp.Not _ _) _ _ _); refine dt_not ?_) | ((with_reducible show DT _ _ (Expr.Compare _ [_] _ _) _ _ _); refine dt_cmp ?_) | ((with_reducible show DT _ _ (Expr.Compare _ [_, _] _ _) _ _ _); refine dt_chain ?_) | refine dt_val ?_)
    | ((with_reducible show DW _ _ _ _ _ _); first | ((with_reducible show DW _ _ (Expr.BoolOp BoolOp.And [_] _) _ _ _); refine dw_and1 ?_) | ((with_reducible show DW _ _ (Expr.BoolOp BoolOp.Or [_] _) _ _ _); refine dw_or1 ?_) | ((with_reducible show DW _ _ (Expr.BoolOp BoolOp.And _ _) _ _ _); refine dw_and ?_) | ((with_reducible show DW _ _ (Expr.BoolOp BoolOp.Or _ _) _ _ _); refine dw_or ?_))
    | ((with_reducible show DSs _ _ _ _ _ _); first | ((with_reducible show DSs _ _ [] _ _ _); refine dss_nil ?_) | ((with_reducible show DSs _ _ [_] _ _ _); refine dss_one ?_) | ((with_reducible show DSs _ _ (_ :: _) _ _ _); refine dss_cons ?_))
    | ((with_reducible show DS _ _ _ _ _ _); first | ((with_reducible show DS _ _ (Stmt.Return (some _) _) _ _ _); refine ds_ret ?_) | ((with_reducible show DS _ _ (Stmt.If _ _ _ _) _ _ _); refine ds_if ?_) | ((with_reducible show DS _ _ (Stmt.Expr _ _) _ _ _); refine ds_expr ?_) | ((with_reducible show DS _ _ (Stmt.Assign [Expr.Name _ _] _ _) _ _ _); walk_at "dset"))
    | ((with_reducible show DP _ _ none _ _ _); refine dp_none ?_)
    | ((with_reducible show DP _ _ (some _) _ _ _); refine dp_some ?_)
    | ((with_reducible show ∃ d, SV.dat _ = SV.dat d ∧ Fi d ∧ _); refine ⟨_, rfl, by assumption, ?_⟩)
    | ((with_reducible show ∃ i, SV.dat (Dt.int _) = SV.dat (Dt.int i) ∧ _); refine ⟨_, rfl, ?_⟩)
    | ((with_reducible show SlD _ _ (SV.dat (Dt.tup _)) _ _ _ _); refine sl_dT ?_)
    | ((with_reducible show ∃ ds, undat _ = some ds ∧ ds.length ≤ 1000 ∧ _); refine ⟨_, rfl, Nat.le_of_ble_eq_true rfl, ?_⟩)
    | ((with_reducible show ∃ q, SV.at _ = SV.at q ∧ _); refine ⟨_, rfl, ?_⟩)
    | ((with_reducible show ∃ z, SV.dat (Dt.str _) = SV.dat (Dt.str z) ∧ _); refine ⟨_, rfl, ?_⟩)
    | ((with_reducible show IxD _ _ (SV.at _) (SV.dat (Dt.int 0)) _ _); refine ix_pot0 (by assumption) (fun _ _ => ?_))
    | ((with_reducible show IxD _ _ (SV.at _) (SV.dat (Dt.int 1)) _ _); refine ix_pot1 (by assumption) (fun _ _ _ => ?_))
    | ((with_reducible show UnD _ _ (unaryOp UnaryOp.USub) _ _ _); refine un_negI ?_)
    | ((with_reducible show Po.nx _ _ _); dsimp only)
    | ((with_reducible show Po.rt _ _ _); dsimp only))
local macro_rules
  | `(tactic| walk_at "drun") => `(tactic| repeat' (walk_at "dstep"))

section
variable {X : Cx} {w : Wd} {ρ : List SV} {μ : Mus} {P : Po} {x y z : Str} {pos : Pos}
theorem ds_par3 (i j l : Nat) {e1 e2 e3 : Expr} {px py pz pt : Pos} {kt k2 pt2} (hc : X.calm = true) (hN : X.N.Nodup) (h : DA X w [e1, e2, e3] ρ μ fun rs μ' => ∃ r s t, rs = [r, s, t] ∧ P.nx (((ρ.set i r).set j s).set l t) μ')
    (hi : X.N[i]? = some x := by rfl) (hj : X.N[j]? = some y := by rfl) (hl : X.N[l]? = some z := by rfl) (hij : i ≠ j := by decide) (hil : i ≠ l := by decide) (hjl : j ≠ l := by decide)
    (hx : X.env.scope.names.lookup x = some .local := by rfl) (hy : X.env.scope.names.lookup y = some .local := by rfl) (hz : X.env.scope.names.lookup z = some .local := by rfl)
    (hw : swappedStores [.Tuple [.Name x px, .Name y py, .Name z pz] kt pt] (.Tuple [e1, e2, e3] k2 pt2) X.env = pure (some [x, y, z]) := by rfl)
    (hs : swapsWithSole [.Tuple [.Name x px, .Name y py, .Name z pz] kt pt] (.Tuple [e1, e2, e3] k2 pt2) pos.line X.env = pure false := by rfl) :
    DS X w (.Assign [.Tuple [.Name x px, .Name y py, .Name z pz] kt pt] (.Tuple [e1, e2, e3] k2 pt2) pos) ρ μ P := fun σ B H S I D E =>
  tS_of (ps_par3 hc hN hi hj hl hij hil hjl hx hy hz pa_self hw hs) (h σ B H S I _ fun vs rs B1 H1 μ1 I1 ex q1 h1 => by
    obtain ⟨r, s, t, rfl, h1⟩ := h1
    cases q1 with
    | cons p q => cases q with
      | cons p' q' => cases q' with
        | cons p2 q2 => cases q2; exact ⟨_, _, _, rfl, E.nx _ B1 H1 _ μ1 ((((S.mono ex).set i p).set j p').set l p2) I1 ex h1⟩)
end
/-! ### the law -/
def spLaw (K : PySem.W.Frag) : Sp := GSp (fun rs _ => ∃ a ns, rs = [.sc K a ns] ∧ ns.length ≤ 63) fun rs μ r μ' => r = .dat (.bl true)
set_option hygiene false in
local macro_rules
  | `(tactic| walk_at "down") => `(tactic| first | ((with_reducible show DE _ _ (Expr.Call (Expr.Name "_law_take" _) _ _ _) _ _ _); refine de_take oTake hr (by decide) hg ?_) | ((with_reducible show DE _ _ (Expr.Call (Expr.Name "_law_odd" _) _ _ _) _ _ _); refine de_q0 oOdd hr (by decide) hg ?_) | ((with_reducible show DE _ _ (Expr.Call (Expr.Name "_law_path" _) _ _ _) _ _ _); refine de_q0 oLPath hr (by decide) hg ?_) | ((with_reducible show DE _ _ (Expr.Call (Expr.Name "_law_label" _) _ _ _) _ _ _); refine de_new oNew hr (by decide) hg ?_) | ((with_reducible show DE _ _ (Expr.Call (Expr.Name "_law_pot" _) _ _ _) _ _ _); refine de_own oPot hr (by decide) hg ?_) | ((with_reducible show DE _ _ (Expr.Call (Expr.Name "_law_lots" _) _ _ _) _ _ _); refine de_pot oDraw hr (by decide) hg ?_) | ((with_reducible show DE _ _ (Expr.Call (Expr.Name "_law_spoilt" _) _ _ _) _ _ _); refine de_pot oSpoilt hr (by decide) hg ?_) | ((with_reducible show DE _ _ (Expr.Call (Expr.Name "_law_near" _) _ _ _) _ _ _); refine de_pot oNear hr (by decide) hg ?_) | ((with_reducible show DE _ _ (Expr.Call (Expr.Name "_law_right" _) _ _ _) _ _ _); refine de_p1 oRight hr (by decide) hg ?_))
section
variable {P : Program} {w : World} {K : PySem.W.Frag} {mg : Str → Option Value} {base : Heap}
abbrev sLaw : Stmt := top 26
abbrev nLaw : List Str := ["_law_script", "_law_k", "_law_pot_here", "_law_name", "_law_lots_here", "_law_path_here", "_law_some", "_law_thing"]
theorem scLaw : FnScope nLaw ["_law_script"] (defScope sLaw) := ⟨rfl, rfl, rfl, by decide +kernel, rfl, by decide +kernel, by decide +kernel⟩
theorem ok_law {f : Addr} {fd : FuncData} (F : Fun K "law" "law" sLaw f fd) (T : Txt mg) (oPot : Own P w K mg base "_law_pot" 1 (spPot K)) (oTake : Own P w K mg base "_law_take" 1 spTake) (oNew : Own P w K mg base "_law_label" 2 spNew) (oDraw : Own P w K mg base "_law_lots" 2 spDraw)
    (oOdd : Own P w K mg base "_law_odd" 2 spOdd) (oLPath : Own P w K mg base "_law_path" 3 spPath) (oSpoilt : Own P w K mg base "_law_spoilt" 3 spSpoilt) (oNear : Own P w K mg base "_law_near" 3 spNear) (oRight : Own P w K mg base "_law_right" 4 spRight) : FnG P w K mg base 5 f fd ["_law_script"] (spLaw K) := by
  refine fn_ok F scLaw (fun rs μ ⟨a, ns, e, _⟩ => by rw [e]; rfl) fun cdv A outer s H hr hg w' rs μ ⟨a, ns, e, hns⟩ => ?_
  subst e
  obtain ⟨t1, t2, t3, t4, t5, t6, t7, t8, t9, t10, t11, t12, t13, t14, t15, t16, t17, t18⟩ := T
  have hN : nLaw.Nodup := by decide +kernel
  refine dss_cons ?_
  walk_at "drun"
  have e0 : PyData.eqv (toPy (.lst [.int 0, .int 12, .int 6])) (toPy (.lst [.int 0, .int 12, .int 6])) = true := by decide +kernel
  refine op_neDt hr rfl rfl (by decide +kernel) (by decide +kernel) ?_
  rw [e0]
  walk_at "drun"
  refine ds_for (di_range1 ?_ t12) PassesOwn.never rfl
  walk_at "drun"
  refine ⟨_, rfl, by omega, by omega, fun n ρ' μ' => ∃ s1 s2 s3 s4 s5 s6 s7 : SV, ρ' = [.sc K a ns, s1, s2, s3, s4, s5, s6, s7], ⟨.no, .no, .no, .no, .no, .no, .no, rfl⟩, ?_, ?_⟩
  · rintro n d ρ' μ' hi ⟨s1, s2, s3, s4, s5, s6, s7, rfl⟩
    have hn : n < 8 ∧ d = .int (0 + (n : Int)) := by
      have h1 := (List.getElem?_eq_some_iff.mp hi).1
      have h2 : n < 8 := by
        simp [upto] at h1
        omega
      refine ⟨h2, ?_⟩
      unfold upto at hi
      rw [List.getElem?_map] at hi
      have h3 : n < (max 1 (min 8 (ns.length : Int))).toNat := by simpa [upto] using h1
      rw [List.getElem?_range h3] at hi
      exact (Option.some.inj hi).symm
    obtain ⟨hn8, rfl⟩ := hn
    refine dg_name 1 hN ?_
    refine dss_cons (ds_set 2 hN ?_)
    walk_at "drun"
    refine ⟨⟨a, ns, _, rfl, by omega, by omega, by omega⟩, ?_⟩
    rintro r μ2 ⟨p, rfl, hq0, rfl⟩
    have hp1 : (μ'.put p .pot) p = some .pot := put_same
    walk_at "drun"
    refine ds_par3 3 4 5 rfl hN ?_
    walk_at "drun"
    refine ⟨hp1, fun l q b hl hq1 => ?_⟩
    have hp2 : ((μ'.put p .pot).put q b) p = some .pot := pot_ne hp1 hq1
    generalize hν : (μ'.put p .pot).put q b = ν at hp2 ⊢
    walk_at "drun"
    refine ⟨hp2, ⟨by decide, by decide⟩, fun m hm0 hm1 => ?_⟩
    walk_at "drun"
    refine ⟨p, _, _, rfl, rfl, hp2, ⟨m, rfl, hm0, by omega⟩, ?_⟩
    rintro d ⟨qs, rfl, hq6, hqs⟩
    walk_at "drun"
    refine ⟨hp2, fun d hd => ?_⟩
    obtain ⟨l2, ps, hl2, rfl, hps9, hps⟩ := hd
    walk_at "drun"
    refine ⟨_, _, _, rfl, ?_⟩
    walk_at "drun"
    have sq : ∀ d, d ∈ qs.map Dt.int → Sc d := fun d hd => by
      obtain ⟨v, hv, rfl⟩ := List.mem_map.mp hd
      have := hqs v hv
      exact fine_int 0 (by omega)
    have sp : ∀ d, d ∈ (.str (SX.S l2) :: ps.map Dt.int : List Dt) → Sc d := fun d hd => by
      rcases List.mem_cons.mp hd with rfl | h
      · exact hl2.tx.sc (by decide)
      · obtain ⟨v, hv, rfl⟩ := List.mem_map.mp h
        have := hps v hv
        exact fine_int 0 (by omega)
    refine ds_set 6 hN ?_
    walk_at "drun"
    refine ⟨p, _, _, rfl, rfl, hp2, ⟨_, rfl, by rw [List.length_map]; omega, sq⟩, fun d1 hd1 => ?_⟩
    walk_at "drun"
    refine ⟨p, _, _, rfl, rfl, hp2, ⟨_, rfl, by rw [List.length_cons, List.length_map]; omega, sp⟩, fun d2 hd2 => ?_⟩
    walk_at "drun"
    refine ⟨hp2, fun o ho => ?_⟩
    walk_at "drun"
    refine ⟨p, _, _, rfl, rfl, hp2, ⟨l, rfl, hl⟩, ?_⟩
    rintro d ⟨ys, rfl, hy20, hys⟩
    refine op_addL (.inl rfl) (.inl rfl) (small_ok (by simp; omega)) ?_
    have hall : ∀ d, d ∈ ([.str (SX.S l), .tup (qs.map Dt.int), .tup (.str (SX.S l2) :: ps.map Dt.int), d1, d2, o] ++ ys : List Dt) → Good d := by
      intro d hd
      simp only [List.cons_append, List.nil_append, List.mem_cons] at hd
      rcases hd with rfl | rfl | rfl | rfl | rfl | rfl | h
      · exact (hl.tx.sc (by decide)).good
      · exact scs_good (by rw [List.length_map]; omega) sq
      · exact scs_good (by rw [List.length_cons, List.length_map]; omega) sp
      · exact hd1
      · exact hd2
      · exact ho.good
      · exact hys d h
    have hlen : ([.str (SX.S l), .tup (qs.map Dt.int), .tup (.str (SX.S l2) :: ps.map Dt.int), d1, d2, o] ++ ys : List Dt).length ≤ 30 := by simp; omega
    generalize ([.str (SX.S l), .tup (qs.map Dt.int), .tup (.str (SX.S l2) :: ps.map Dt.int), d1, d2, o] ++ ys : List Dt) = zs at hall hlen
    walk_at "drun"
    refine de_lc 7 rfl hN (blkOk_by (N := nLaw) (sc := defScope sLaw) (by decide +kernel)) ?_
    refine di_lst ?_
    walk_at "drun"
    refine ⟨_, rfl, lc_map (fun _ => .bl true) (by omega) ?_ ?_⟩
    · intro d hd w2 k
      walk_at "drun"
      refine ⟨_, rfl, hall d hd, ?_⟩
      exact ⟨rfl, rfl⟩
    walk_at "drun"
    refine ca_all rfl (bs := zs.map fun _ => true) (.inl (by rw [List.map_map]; rfl)) ?_
    have e1 : (zs.map fun _ => true).all id = true := by simp
    rw [e1]
    walk_at "drun"
    exact ⟨_, _, _, _, _, _, _, rfl⟩
  · rintro ρ' μ' ⟨s1, s2, s3, s4, s5, s6, s7, rfl⟩
    walk_at "drun"
    exact ⟨_, Mus.Sub.refl _, rfl⟩
end
end K11

set_option Elab.async false
set_option linter.all false
set_option maxRecDepth 100000
namespace K11
open PySem L2 Dat

theorem all_mk {l : PySem.W.OpenLaw} {w : World} {K : PySem.W.Frag} {h : Heap} {mg : Str → Option Value} {fa f0 f1 f2 f3 f4 f5 f6 f7 f8 f9 f10 f11 f12 f13 f14 f15 f16 f17 f18 f19 : Addr} (X : K.In h) (G : h.Ns mainGlobals mg) (hfa : mg "law" = some (.ref fa))
    {od0 an0 od1 an1 od2 an2 od3 an3 od4 an4 od5 an5 od6 an6 od7 an7 od8 an8 od9 an9 od10 an10 od11 an11 od12 an12 od13 an13 od14 an14 od15 an15 od16 an16 od17 an17 od18 an18 od19 an19 : Option Addr} {sl0 sl1 sl2 sl3 sl4 sl5 sl6 sl7 sl8 sl9 sl10 sl11 sl12 sl13 sl14 sl15 sl16 sl17 sl18 sl19 : Array (Option Value)} {oc0 kV0 dc0 pm0 cd0 ct0 oc1 kV1 dc1 pm1 cd1 ct1 oc2 kV2 dc2 pm2 cd2 ct2 oc3 kV3 dc3 pm3 cd3 ct3 oc4 kV4 dc4 pm4 cd4 ct4 oc5 kV5 dc5 pm5 cd5 ct5 oc6 kV6 dc6 pm6 cd6 ct6 oc7 kV7 dc7 pm7 cd7 ct7 oc8 kV8 dc8 pm8 cd8 ct8 oc9 kV9 dc9 pm9 cd9 ct9 oc10 kV10 dc10 pm10 cd10 ct10 oc11 kV11 dc11 pm11 cd11 ct11 oc12 kV12 dc12 pm12 cd12 ct12 oc13 kV13 dc13 pm13 cd13 ct13 oc14 kV14 dc14 pm14 cd14 ct14 oc15 kV15 dc15 pm15 cd15 ct15 oc16 kV16 dc16 pm16 cd16 ct16 oc17 kV17 dc17 pm17 cd17 ct17 oc18 kV18 dc18 pm18 cd18 ct18 oc19 kV19 dc19 pm19 cd19 ct19 : Value} {tk0 tk1 tk2 tk3 tk4 : Tok}
    (a0 : PySem.W.nsIn K mainGlobals "is_whole" = some (some (.ref f0)))
    (l0 : K.lookup f0 = some ⟨oc0, od0, .func (PySem.W.fnOf "is_whole" "is_whole" (defArgs sWhole) (defBody sWhole) (defScope sWhole) .none kV0 dc0 pm0 an0 cd0 ct0), sl0⟩)
    (c0 : PySem.W.codeIn K cd0 "is_whole" = true) (k0 : PySem.W.keepIn K (.ref f0) = true)
    (a1 : PySem.W.nsIn K mainGlobals "is_name" = some (some (.ref f1)))
    (l1 : K.lookup f1 = some ⟨oc1, od1, .func (PySem.W.fnOf "is_name" "is_name" (defArgs sName) (defBody sName) (defScope sName) .none kV1 dc1 pm1 an1 cd1 ct1), sl1⟩)
    (c1 : PySem.W.codeIn K cd1 "is_name" = true) (k1 : PySem.W.keepIn K (.ref f1) = true)
    (a2 : PySem.W.nsIn K mainGlobals "is_lots" = some (some (.ref f2)))
    (l2 : K.lookup f2 = some ⟨oc2, od2, .func (PySem.W.fnOf "is_lots" "is_lots" (defArgs sLots) (defBody sLots) (defScope sLots) .none kV2 dc2 pm2 an2 cd2 ct2), sl2⟩)
    (c2 : PySem.W.codeIn K cd2 "is_lots" = true) (k2 : PySem.W.keepIn K (.ref f2) = true)
    (a3 : PySem.W.nsIn K mainGlobals "is_place" = some (some (.ref f3)))
    (l3 : K.lookup f3 = some ⟨oc3, od3, .func (PySem.W.fnOf "is_place" "is_place" (defArgs sPlace) (defBody sPlace) (defScope sPlace) .none kV3 dc3 pm3 an3 cd3 ct3), sl3⟩)
    (c3 : PySem.W.codeIn K cd3 "is_place" = true) (k3 : PySem.W.keepIn K (.ref f3) = true)
    (a4 : PySem.W.nsIn K mainGlobals "is_who" = some (some (.ref f4)))
    (l4 : K.lookup f4 = some ⟨oc4, od4, .func (PySem.W.fnOf "is_who" "is_who" (defArgs sWho) (defBody sWho) (defScope sWho) .none kV4 dc4 pm4 an4 cd4 ct4), sl4⟩)
    (c4 : PySem.W.codeIn K cd4 "is_who" = true) (k4 : PySem.W.keepIn K (.ref f4) = true)
    (a5 : PySem.W.nsIn K mainGlobals "_law_pot" = some (some (.ref f5)))
    (l5 : K.lookup f5 = some ⟨oc5, od5, .func (PySem.W.fnOf "_law_pot" "_law_pot" (defArgs sPot) (defBody sPot) (defScope sPot) .none kV5 dc5 pm5 an5 cd5 ct5), sl5⟩)
    (c5 : PySem.W.codeIn K cd5 "_law_pot" = true) (k5 : PySem.W.keepIn K (.ref f5) = true)
    (a6 : PySem.W.nsIn K mainGlobals "_law_take" = some (some (.ref f6)))
    (l6 : K.lookup f6 = some ⟨oc6, od6, .func (PySem.W.fnOf "_law_take" "_law_take" (defArgs sTake) (defBody sTake) (defScope sTake) .none kV6 dc6 pm6 an6 cd6 ct6), sl6⟩)
    (c6 : PySem.W.codeIn K cd6 "_law_take" = true) (k6 : PySem.W.keepIn K (.ref f6) = true)
    (a7 : PySem.W.nsIn K mainGlobals "_law_label" = some (some (.ref f7)))
    (l7 : K.lookup f7 = some ⟨oc7, od7, .func (PySem.W.fnOf "_law_label" "_law_label" (defArgs sNew) (defBody sNew) (defScope sNew) .none kV7 dc7 pm7 an7 cd7 ct7), sl7⟩)
    (c7 : PySem.W.codeIn K cd7 "_law_label" = true) (k7 : PySem.W.keepIn K (.ref f7) = true)
    (a8 : PySem.W.nsIn K mainGlobals "_law_lots" = some (some (.ref f8)))
    (l8 : K.lookup f8 = some ⟨oc8, od8, .func (PySem.W.fnOf "_law_lots" "_law_lots" (defArgs sDraw) (defBody sDraw) (defScope sDraw) .none kV8 dc8 pm8 an8 cd8 ct8), sl8⟩)
    (c8 : PySem.W.codeIn K cd8 "_law_lots" = true) (k8 : PySem.W.keepIn K (.ref f8) = true)
    (a9 : PySem.W.nsIn K mainGlobals "_law_odd" = some (some (.ref f9)))
    (l9 : K.lookup f9 = some ⟨oc9, od9, .func (PySem.W.fnOf "_law_odd" "_law_odd" (defArgs sOdd) (defBody sOdd) (defScope sOdd) .none kV9 dc9 pm9 an9 cd9 ct9), sl9⟩)
    (c9 : PySem.W.codeIn K cd9 "_law_odd" = true) (k9 : PySem.W.keepIn K (.ref f9) = true)
    (a10 : PySem.W.nsIn K mainGlobals "_law_is_label" = some (some (.ref f10)))
    (l10 : K.lookup f10 = some ⟨oc10, od10, .func (PySem.W.fnOf "_law_is_label" "_law_is_label" (defArgs sLabel) (defBody sLabel) (defScope sLabel) .none kV10 dc10 pm10 an10 cd10 ct10), sl10⟩)
    (c10 : PySem.W.codeIn K cd10 "_law_is_label" = true) (k10 : PySem.W.keepIn K (.ref f10) = true)
    (a11 : PySem.W.nsIn K mainGlobals "_law_is_whole" = some (some (.ref f11)))
    (l11 : K.lookup f11 = some ⟨oc11, od11, .func (PySem.W.fnOf "_law_is_whole" "_law_is_whole" (defArgs sInl) (defBody sInl) (defScope sInl) .none kV11 dc11 pm11 an11 cd11 ct11), sl11⟩)
    (c11 : PySem.W.codeIn K cd11 "_law_is_whole" = true) (k11 : PySem.W.keepIn K (.ref f11) = true)
    (a12 : PySem.W.nsIn K mainGlobals "_law_are_lots" = some (some (.ref f12)))
    (l12 : K.lookup f12 = some ⟨oc12, od12, .func (PySem.W.fnOf "_law_are_lots" "_law_are_lots" (defArgs sLLots) (defBody sLLots) (defScope sLLots) .none kV12 dc12 pm12 an12 cd12 ct12), sl12⟩)
    (c12 : PySem.W.codeIn K cd12 "_law_are_lots" = true) (k12 : PySem.W.keepIn K (.ref f12) = true)
    (a13 : PySem.W.nsIn K mainGlobals "_law_is_path" = some (some (.ref f13)))
    (l13 : K.lookup f13 = some ⟨oc13, od13, .func (PySem.W.fnOf "_law_is_path" "_law_is_path" (defArgs sPath) (defBody sPath) (defScope sPath) .none kV13 dc13 pm13 an13 cd13 ct13), sl13⟩)
    (c13 : PySem.W.codeIn K cd13 "_law_is_path" = true) (k13 : PySem.W.keepIn K (.ref f13) = true)
    (a14 : PySem.W.nsIn K mainGlobals "_law_path" = some (some (.ref f14)))
    (l14 : K.lookup f14 = some ⟨oc14, od14, .func (PySem.W.fnOf "_law_path" "_law_path" (defArgs sLPath) (defBody sLPath) (defScope sLPath) .none kV14 dc14 pm14 an14 cd14 ct14), sl14⟩)
    (c14 : PySem.W.codeIn K cd14 "_law_path" = true) (k14 : PySem.W.keepIn K (.ref f14) = true)
    (a15 : PySem.W.nsIn K mainGlobals "_law_spoilt" = some (some (.ref f15)))
    (l15 : K.lookup f15 = some ⟨oc15, od15, .func (PySem.W.fnOf "_law_spoilt" "_law_spoilt" (defArgs sSpoilt) (defBody sSpoilt) (defScope sSpoilt) .none kV15 dc15 pm15 an15 cd15 ct15), sl15⟩)
    (c15 : PySem.W.codeIn K cd15 "_law_spoilt" = true) (k15 : PySem.W.keepIn K (.ref f15) = true)
    (a16 : PySem.W.nsIn K mainGlobals "_law_near" = some (some (.ref f16)))
    (l16 : K.lookup f16 = some ⟨oc16, od16, .func (PySem.W.fnOf "_law_near" "_law_near" (defArgs sNear) (defBody sNear) (defScope sNear) .none kV16 dc16 pm16 an16 cd16 ct16), sl16⟩)
    (c16 : PySem.W.codeIn K cd16 "_law_near" = true) (k16 : PySem.W.keepIn K (.ref f16) = true)
    (a17 : PySem.W.nsIn K mainGlobals "_law_judged" = some (some (.ref f17)))
    (l17 : K.lookup f17 = some ⟨oc17, od17, .func (PySem.W.fnOf "_law_judged" "_law_judged" (defArgs sJudged) (defBody sJudged) (defScope sJudged) .none kV17 dc17 pm17 an17 cd17 ct17), sl17⟩)
    (c17 : PySem.W.codeIn K cd17 "_law_judged" = true) (k17 : PySem.W.keepIn K (.ref f17) = true)
    (a18 : PySem.W.nsIn K mainGlobals "_law_right" = some (some (.ref f18)))
    (l18 : K.lookup f18 = some ⟨oc18, od18, .func (PySem.W.fnOf "_law_right" "_law_right" (defArgs sRight) (defBody sRight) (defScope sRight) .none kV18 dc18 pm18 an18 cd18 ct18), sl18⟩)
    (c18 : PySem.W.codeIn K cd18 "_law_right" = true) (k18 : PySem.W.keepIn K (.ref f18) = true)
    (a19 : PySem.W.nsIn K mainGlobals "law" = some (some (.ref f19)))
    (l19 : K.lookup f19 = some ⟨oc19, od19, .func (PySem.W.fnOf "law" "law" (defArgs sLaw) (defBody sLaw) (defScope sLaw) .none kV19 dc19 pm19 an19 cd19 ct19), sl19⟩)
    (c19 : PySem.W.codeIn K cd19 "law" = true) (k19 : PySem.W.keepIn K (.ref f19) = true)
    (z0 : PySem.W.nsIn K mainGlobals "isinstance" = some none)
    (z1 : PySem.W.nsIn K mainGlobals "int" = some none)
    (z2 : PySem.W.nsIn K mainGlobals "bool" = some none)
    (z3 : PySem.W.nsIn K mainGlobals "str" = some none)
    (z4 : PySem.W.nsIn K mainGlobals "tuple" = some none)
    (z5 : PySem.W.nsIn K mainGlobals "list" = some none)
    (z6 : PySem.W.nsIn K mainGlobals "len" = some none)
    (z7 : PySem.W.nsIn K mainGlobals "all" = some none)
    (z8 : PySem.W.nsIn K mainGlobals "max" = some none)
    (z9 : PySem.W.nsIn K mainGlobals "min" = some none)
    (z10 : PySem.W.nsIn K mainGlobals "repr" = some none)
    (z11 : PySem.W.nsIn K mainGlobals "range" = some none)
    (z12 : PySem.W.nsIn K mainGlobals "divmod" = some none)
    (q0 : PySem.W.nsIn K mainGlobals "MOST_LETTERS" = some (some (.int 8 tk0)))
    (q1 : PySem.W.nsIn K mainGlobals "MOST_HANDS" = some (some (.int 6 tk1)))
    (q2 : PySem.W.nsIn K mainGlobals "LAST_PLACE" = some (some (.int 11 tk2)))
    (q3 : PySem.W.nsIn K mainGlobals "FACE" = some (some (.int 0 tk3)))
    (q4 : PySem.W.nsIn K mainGlobals "MOST_KINDS" = some (some (.int 12 tk4)))
    : ∃ fd : FuncData, (∀ (s : Shared) (v : Value), BindsTo s fd ⟨[v], []⟩ [("_law_script", v)]) ∧ ∀ base : Heap, K.In base → base.Ns mainGlobals mg → FnG l.prog w K mg base 5 fa fd ["_law_script"] (spLaw K) := by
  have e := hfa.symm.trans (PySem.W.mg_of X G a19)
  cases e
  have T : Txt mg := ⟨PySem.W.mg_none_of X G z0, PySem.W.mg_none_of X G z1, PySem.W.mg_none_of X G z2, PySem.W.mg_none_of X G z3, PySem.W.mg_none_of X G z4, PySem.W.mg_none_of X G z5, PySem.W.mg_none_of X G z6, PySem.W.mg_none_of X G z7, PySem.W.mg_none_of X G z8, PySem.W.mg_none_of X G z9, PySem.W.mg_none_of X G z10, PySem.W.mg_none_of X G z11, PySem.W.mg_none_of X G z12, ⟨_, PySem.W.mg_of X G q0⟩, ⟨_, PySem.W.mg_of X G q1⟩, ⟨_, PySem.W.mg_of X G q2⟩, ⟨_, PySem.W.mg_of X G q3⟩, ⟨_, PySem.W.mg_of X G q4⟩⟩
  have F0 := fun_mk (st := sWhole) l0 c0 k0
  have b0 := F0.binds (ps := ["thing"]) fun _ _ _ _ _ _ us hl => match us, hl with | [_], _ => rfl
  have F1 := fun_mk (st := sName) l1 c1 k1
  have b1 := F1.binds (ps := ["thing"]) fun _ _ _ _ _ _ us hl => match us, hl with | [_], _ => rfl
  have F2 := fun_mk (st := sLots) l2 c2 k2
  have b2 := F2.binds (ps := ["thing"]) fun _ _ _ _ _ _ us hl => match us, hl with | [_], _ => rfl
  have F3 := fun_mk (st := sPlace) l3 c3 k3
  have b3 := F3.binds (ps := ["thing"]) fun _ _ _ _ _ _ us hl => match us, hl with | [_], _ => rfl
  have F4 := fun_mk (st := sWho) l4 c4 k4
  have b4 := F4.binds (ps := ["thing"]) fun _ _ _ _ _ _ us hl => match us, hl with | [_], _ => rfl
  have F5 := fun_mk (st := sPot) l5 c5 k5
  have b5 := F5.binds (ps := ["_law_script", "_law_k"]) fun _ _ _ _ _ _ us hl => match us, hl with | [_, _], _ => rfl
  have F6 := fun_mk (st := sTake) l6 c6 k6
  have b6 := F6.binds (ps := ["_law_pot_here", "_law_much"]) fun _ _ _ _ _ _ us hl => match us, hl with | [_, _], _ => rfl
  have F7 := fun_mk (st := sNew) l7 c7 k7
  have b7 := F7.binds (ps := ["_law_pot_here", "_law_used"]) fun _ _ _ _ _ _ us hl => match us, hl with | [_, _], _ => rfl
  have F8 := fun_mk (st := sDraw) l8 c8 k8
  have b8 := F8.binds (ps := ["_law_pot_here", "_law_many"]) fun _ _ _ _ _ _ us hl => match us, hl with | [_, _], _ => rfl
  have F9 := fun_mk (st := sOdd) l9 c9 k9
  have b9 := F9.binds (ps := ["_law_pot_here"]) fun _ _ _ _ _ _ us hl => match us, hl with | [_], _ => rfl
  have F10 := fun_mk (st := sLabel) l10 c10 k10
  have b10 := F10.binds (ps := ["_law_thing"]) fun _ _ _ _ _ _ us hl => match us, hl with | [_], _ => rfl
  have F11 := fun_mk (st := sInl) l11 c11 k11
  have b11 := F11.binds (ps := ["_law_thing", "_law_low", "_law_high"]) fun _ _ _ _ _ _ us hl => match us, hl with | [_, _, _], _ => rfl
  have F12 := fun_mk (st := sLLots) l12 c12 k12
  have b12 := F12.binds (ps := ["_law_thing"]) fun _ _ _ _ _ _ us hl => match us, hl with | [_], _ => rfl
  have F13 := fun_mk (st := sPath) l13 c13 k13
  have b13 := F13.binds (ps := ["_law_thing"]) fun _ _ _ _ _ _ us hl => match us, hl with | [_], _ => rfl
  have F14 := fun_mk (st := sLPath) l14 c14 k14
  have b14 := F14.binds (ps := ["_law_pot_here"]) fun _ _ _ _ _ _ us hl => match us, hl with | [_], _ => rfl
  have F15 := fun_mk (st := sSpoilt) l15 c15 k15
  have b15 := F15.binds (ps := ["_law_pot_here", "_law_thing"]) fun _ _ _ _ _ _ us hl => match us, hl with | [_, _], _ => rfl
  have F16 := fun_mk (st := sNear) l16 c16 k16
  have b16 := F16.binds (ps := ["_law_pot_here", "_law_name"]) fun _ _ _ _ _ _ us hl => match us, hl with | [_, _], _ => rfl
  have F17 := fun_mk (st := sJudged) l17 c17 k17
  have b17 := F17.binds (ps := ["_law_thing"]) fun _ _ _ _ _ _ us hl => match us, hl with | [_], _ => rfl
  have F18 := fun_mk (st := sRight) l18 c18 k18
  have b18 := F18.binds (ps := ["_law_thing"]) fun _ _ _ _ _ _ us hl => match us, hl with | [_], _ => rfl
  have F19 := fun_mk (st := sLaw) l19 c19 k19
  refine ⟨PySem.W.fnOf "law" "law" (defArgs sLaw) (defBody sLaw) (defScope sLaw) .none kV19 dc19 pm19 an19 cd19 ct19, fun s v => .of_eq rfl, fun base _ _ => ?_⟩
  have O0 : Own l.prog w K mg base "is_whole" 1 spWhole := ⟨_, _, _, ok_whole F0 T , PySem.W.mg_of X G a0, k0, b0⟩
  have O1 : Own l.prog w K mg base "is_name" 1 spName := ⟨_, _, _, ok_name F1 T , PySem.W.mg_of X G a1, k1, b1⟩
  have O2 : Own l.prog w K mg base "is_lots" 2 spLots := ⟨_, _, _, ok_lots F2 T O0, PySem.W.mg_of X G a2, k2, b2⟩
  have O3 : Own l.prog w K mg base "is_place" 2 spPlace := ⟨_, _, _, ok_place F3 T O0, PySem.W.mg_of X G a3, k3, b3⟩
  have O4 : Own l.prog w K mg base "is_who" 3 spWho := ⟨_, _, _, ok_who F4 T O1 O3, PySem.W.mg_of X G a4, k4, b4⟩
  have O5 : Own l.prog w K mg base "_law_pot" 1 (spPot K) := ⟨_, _, _, ok_pot F5 T , PySem.W.mg_of X G a5, k5, b5⟩
  have O6 : Own l.prog w K mg base "_law_take" 1 spTake := ⟨_, _, _, ok_take F6 T , PySem.W.mg_of X G a6, k6, b6⟩
  have O7 : Own l.prog w K mg base "_law_label" 2 spNew := ⟨_, _, _, ok_new F7 T O6, PySem.W.mg_of X G a7, k7, b7⟩
  have O8 : Own l.prog w K mg base "_law_lots" 2 spDraw := ⟨_, _, _, ok_draw F8 T O6, PySem.W.mg_of X G a8, k8, b8⟩
  have O9 : Own l.prog w K mg base "_law_odd" 2 spOdd := ⟨_, _, _, ok_odd F9 T O6, PySem.W.mg_of X G a9, k9, b9⟩
  have O10 : Own l.prog w K mg base "_law_is_label" 1 spName := ⟨_, _, _, ok_label F10 T , PySem.W.mg_of X G a10, k10, b10⟩
  have O11 : Own l.prog w K mg base "_law_is_whole" 1 spInl := ⟨_, _, _, ok_inl F11 T , PySem.W.mg_of X G a11, k11, b11⟩
  have O12 : Own l.prog w K mg base "_law_are_lots" 2 spLots := ⟨_, _, _, ok_llots F12 T O11, PySem.W.mg_of X G a12, k12, b12⟩
  have O13 : Own l.prog w K mg base "_law_is_path" 2 spWho := ⟨_, _, _, ok_path F13 T O10 O11, PySem.W.mg_of X G a13, k13, b13⟩
  have O14 : Own l.prog w K mg base "_law_path" 3 spPath := ⟨_, _, _, ok_lpath F14 T O6 O7, PySem.W.mg_of X G a14, k14, b14⟩
  have O15 : Own l.prog w K mg base "_law_spoilt" 3 spSpoilt := ⟨_, _, _, ok_spoilt F15 T O6 O9, PySem.W.mg_of X G a15, k15, b15⟩
  have O16 : Own l.prog w K mg base "_law_near" 3 spNear := ⟨_, _, _, ok_near F16 T O9, PySem.W.mg_of X G a16, k16, b16⟩
  have O17 : Own l.prog w K mg base "_law_judged" 3 spJudged := ⟨_, _, _, ok_judged F17 T O10 O12 O13, PySem.W.mg_of X G a17, k17, b17⟩
  have O18 : Own l.prog w K mg base "_law_right" 4 spRight := ⟨_, _, _, ok_right F18 T O1 O2 O4 O17, PySem.W.mg_of X G a18, k18, b18⟩
  exact ok_law F19 T O5 O6 O7 O8 O9 O14 O15 O16 O18
theorem lawSp (K : PySem.W.Frag) (H : Hp) (a : Addr) (ns : List Int) (hl : ns.length ≤ 63) (h : SqL K H a (ns.map V.int)) : spLaw K [.ref a] H (fun v _ => v = .bl true) fun _ _ _ => False := by
  refine ⟨H, [.sc K a ns], fun _ => none, .cons ⟨rfl, h⟩ .nil, Ex.refl H, nofun, ⟨a, ns, rfl, hl⟩, ?_⟩
  rintro v r B' H' μ' I q rfl
  cases q
  rfl
end K11

open PySem PySem.W PyProof.Rows in
set_option maxRecDepth 100000 in
set_option maxHeartbeats 0 in
theorem PySem.Challenge.cw_onefacers_k11_names_lots_whos_holds : PySem.Challenge.rw_onefacers_k11_names_lots_whos.Holds := by
  w_on; o_law; k_head; (case hw => w_witness2)
  k_fill
  refine Dat.walk_data (l := PySem.Challenge.rw_onefacers_k11_names_lots_whos) (n := 63) (k := 5) (x := "_law_script") (SP := fun K => K11.spLaw K) rfl (by decide) rfl ⟨rfl, by decide, by decide⟩ (fun w h Y => PySem.W.kIn_of Y) ?F (fun K H a ns hl h => K11.lawSp K H a ns hl h)
  case F =>
    intro w mg fa h KX G hmg
    refine' K11.all_mk KX G hmg ?a0 ?l0 ?c0 ?k0 ?a1 ?l1 ?c1 ?k1 ?a2 ?l2 ?c2 ?k2 ?a3 ?l3 ?c3 ?k3 ?a4 ?l4 ?c4 ?k4 ?a5 ?l5 ?c5 ?k5 ?a6 ?l6 ?c6 ?k6 ?a7 ?l7 ?c7 ?k7 ?a8 ?l8 ?c8 ?k8 ?a9 ?l9 ?c9 ?k9 ?a10 ?l10 ?c10 ?k10 ?a11 ?l11 ?c11 ?k11 ?a12 ?l12 ?c12 ?k12 ?a13 ?l13 ?c13 ?k13 ?a14 ?l14 ?c14 ?k14 ?a15 ?l15 ?c15 ?k15 ?a16 ?l16 ?c16 ?k16 ?a17 ?l17 ?c17 ?k17 ?a18 ?l18 ?c18 ?k18 ?a19 ?l19 ?c19 ?k19 ?z0 ?z1 ?z2 ?z3 ?z4 ?z5 ?z6 ?z7 ?z8 ?z9 ?z10 ?z11 ?z12 ?q0 ?q1 ?q2 ?q3 ?q4
    (case a0 => k_is)
    (case l0 => k_is)
    (case c0 => k_is)
    (case k0 => k_is)
    (case a1 => k_is)
    (case l1 => k_is)
    (case c1 => k_is)
    (case k1 => k_is)
    (case a2 => k_is)
    (case l2 => k_is)
    (case c2 => k_is)
    (case k2 => k_is)
    (case a3 => k_is)
    (case l3 => k_is)
    (case c3 => k_is)
    (case k3 => k_is)
    (case a4 => k_is)
    (case l4 => k_is)
    (case c4 => k_is)
    (case k4 => k_is)
    (case a5 => k_is)
    (case l5 => k_is)
    (case c5 => k_is)
    (case k5 => k_is)
    (case a6 => k_is)
    (case l6 => k_is)
    (case c6 => k_is)
    (case k6 => k_is)
    (case a7 => k_is)
    (case l7 => k_is)
    (case c7 => k_is)
    (case k7 => k_is)
    (case a8 => k_is)
    (case l8 => k_is)
    (case c8 => k_is)
    (case k8 => k_is)
    (case a9 => k_is)
    (case l9 => k_is)
    (case c9 => k_is)
    (case k9 => k_is)
    (case a10 => k_is)
    (case l10 => k_is)
    (case c10 => k_is)
    (case k10 => k_is)
    (case a11 => k_is)
    (case l11 => k_is)
    (case c11 => k_is)
    (case k11 => k_is)
    (case a12 => k_is)
    (case l12 => k_is)
    (case c12 => k_is)
    (case k12 => k_is)
    (case a13 => k_is)
    (case l13 => k_is)
    (case c13 => k_is)
    (case k13 => k_is)
    (case a14 => k_is)
    (case l14 => k_is)
    (case c14 => k_is)
    (case k14 => k_is)
    (case a15 => k_is)
    (case l15 => k_is)
    (case c15 => k_is)
    (case k15 => k_is)
    (case a16 => k_is)
    (case l16 => k_is)
    (case c16 => k_is)
    (case k16 => k_is)
    (case a17 => k_is)
    (case l17 => k_is)
    (case c17 => k_is)
    (case k17 => k_is)
    (case a18 => k_is)
    (case l18 => k_is)
    (case c18 => k_is)
    (case k18 => k_is)
    (case a19 => k_is)
    (case l19 => k_is)
    (case c19 => k_is)
    (case k19 => k_is)
    (case z0 => k_is)
    (case z1 => k_is)
    (case z2 => k_is)
    (case z3 => k_is)
    (case z4 => k_is)
    (case z5 => k_is)
    (case z6 => k_is)
    (case z7 => k_is)
    (case z8 => k_is)
    (case z9 => k_is)
    (case z10 => k_is)
    (case z11 => k_is)
    (case z12 => k_is)
    (case q0 => k_is)
    (case q1 => k_is)
    (case q2 => k_is)
    (case q3 => k_is)
    (case q4 => k_is)

