import PyProof.Rows.All
import Wide.All
import OpenK.AllK
import Wide.FinOn
import HandS.ForMost
import HandS.IsInst
import HandS.TupAny
import HandS.Deep
import HandS.Flow
import HandS.WideBits
import PyProof.ReprRoads
import HandS.Walk
import HandS.Codes
import PyProof.Rows.StrCase
import PyProof.StrBlock2
import HandS.WordsExc
import HandS.RaiseMore
import HandS.ExcIs
import HandS.FStr
import HandS.StrMore
import HandS.MakeKwOnly
import PySem.Challenge.RW_onefacers_k18_whos_and_ends_as_texts
import PyProof.FitsReplace
import HandS.ForExc
set_option Elab.async false
set_option linter.all false
set_option maxRecDepth 100000
set_option maxHeartbeats 4000000
/-! Dat0: data in the heap, the state by data alone. -/
namespace Dat
open PySem PySem.Spec PyProof.Rows L2

def Ex (H H' : Hp) : Prop := ∀ a o, H a = some o → H' a = some o
theorem Ex.refl (H : Hp) : Ex H H := fun _ _ h => h
theorem Ex.trans {H H1 H2 : Hp} (a : Ex H H1) (b : Ex H1 H2) : Ex H H2 := fun x o h => b x o (a x o h)
theorem Ex.none {H H' : Hp} (e : Ex H H') {p : Addr} (h : H' p = Option.none) : H p = Option.none := by
  cases q : H p with
  | none => rfl
  | some o => rw [e p o q] at h; cases h
theorem Ex.new {H : Hp} {p : Addr} {o : HO} (h : H p = Option.none) : Ex H (upd H p o) := fun a u e => by
  rw [upd_ne (ne_of_none e h)]; exact e
/-- an object that H does not know may change -/
theorem Ex.mut {H H' : Hp} {p : Addr} {o : HO} (e : Ex H H') (h : H p = Option.none) : Ex H (upd H' p o) := fun a u ha => by
  rw [upd_ne (ne_of_none ha h)]; exact e a u ha
theorem Ex.both {H H' : Hp} {p : Addr} {o : HO} (e : Ex H H') : Ex (upd H p o) (upd H' p o) := fun a u ha => by
  by_cases h : a = p
  · subst h; rw [upd_same] at ha ⊢; exact ha
  · rw [upd_ne h] at ha ⊢; exact e a u ha

/-- data: what a value is, whatever address it has -/
inductive Dt where
  | non | bl (b : Bool) | int (i : Int) | str (x : Str) | lst (xs : List Dt) | tup (xs : List Dt) | dic (ks vs : List Dt) | obj (C : Addr) (ns : List Str) (vs : List Dt)

def keyD : Key → Dt
  | .inl i => .int i
  | .inr x => .str x

mutual
inductive Dq (H : Hp) : V → Dt → Prop
  | non : Dq H .non .non
  | bl (b : Bool) : Dq H (.bl b) (.bl b)
  | int (i : Int) : Dq H (.int i) (.int i)
  | str (x : Str) : Dq H (.str x) (.str x)
  | lst {a : Addr} {xs : List V} {ds : List Dt} : H a = some (.lst xs) → DqA H xs ds → Dq H (.ref a) (.lst ds)
  | tup {a : Addr} {xs : List V} {ds : List Dt} : H a = some (.tup xs) → DqA H xs ds → Dq H (.ref a) (.tup ds)
  | dic {a : Addr} {kvs : List (Key × V)} {ds : List Dt} : H a = some (.dK kvs) → DqA H (kvs.map (·.2)) ds → Dq H (.ref a) (.dic (kvs.map fun kv => keyD kv.1) ds)
  | obj {a C dx : Addr} {fs : List (Str × V)} {ds : List Dt} : H a = some (.ins C dx fs) → DqA H (fs.map (·.2)) ds → Dq H (.ref a) (.obj C (fs.map (·.1)) ds)
inductive DqA (H : Hp) : List V → List Dt → Prop
  | nil : DqA H [] []
  | cons {v : V} {vs : List V} {d : Dt} {ds : List Dt} : Dq H v d → DqA H vs ds → DqA H (v :: vs) (d :: ds)
end

mutual
theorem Dq.mono {H H' : Hp} (e : Ex H H') : ∀ {v : V} {d : Dt}, Dq H v d → Dq H' v d
  | _, _, .non => .non
  | _, _, .bl b => .bl b
  | _, _, .int i => .int i
  | _, _, .str x => .str x
  | _, _, .lst h q => .lst (e _ _ h) (DqA.mono e q)
  | _, _, .tup h q => .tup (e _ _ h) (DqA.mono e q)
  | _, _, .dic h q => .dic (e _ _ h) (DqA.mono e q)
  | _, _, .obj h q => .obj (e _ _ h) (DqA.mono e q)
theorem DqA.mono {H H' : Hp} (e : Ex H H') : ∀ {vs : List V} {ds : List Dt}, DqA H vs ds → DqA H' vs ds
  | _, _, .nil => .nil
  | _, _, .cons h q => .cons (Dq.mono e h) (DqA.mono e q)
end

section
variable {H : Hp}
theorem DqA.length : ∀ {vs : List V} {ds : List Dt}, DqA H vs ds → vs.length = ds.length
  | _, _, .nil => rfl
  | _, _, .cons _ q => by rw [List.length_cons, List.length_cons, DqA.length q]
theorem DqA.get : ∀ {vs : List V} {ds : List Dt} {i : Nat} {d : Dt}, DqA H vs ds → ds[i]? = some d → ∃ v, vs[i]? = some v ∧ Dq H v d
  | _, _, _, _, .nil, e => by simp at e
  | _, _, 0, _, .cons h _, e => by simp at e; subst e; exact ⟨_, rfl, h⟩
  | _, _, i + 1, d, .cons _ q, e => by
    obtain ⟨v, h1, h2⟩ := DqA.get (i := i) (d := d) q (by simpa using e)
    exact ⟨v, by simpa using h1, h2⟩
theorem DqA.getV : ∀ {vs : List V} {ds : List Dt} {i : Nat} {v : V}, DqA H vs ds → vs[i]? = some v → ∃ d, ds[i]? = some d ∧ Dq H v d
  | _, _, _, _, .nil, e => by simp at e
  | _, _, 0, _, .cons h _, e => by simp at e; subst e; exact ⟨_, rfl, h⟩
  | _, _, i + 1, d, .cons _ q, e => by
    obtain ⟨v, h1, h2⟩ := DqA.getV (i := i) (v := d) q (by simpa using e)
    exact ⟨v, by simpa using h1, h2⟩
theorem DqA.append : ∀ {vs ws : List V} {ds es : List Dt}, DqA H vs ds → DqA H ws es → DqA H (vs ++ ws) (ds ++ es)
  | _, _, _, _, .nil, s => s
  | _, _, _, _, .cons h q, s => .cons h (DqA.append q s)
theorem DqA.take : ∀ {vs : List V} {ds : List Dt} (n : Nat), DqA H vs ds → DqA H (vs.take n) (ds.take n)
  | _, _, 0, _ => .nil
  | _, _, _ + 1, .nil => .nil
  | _, _, n + 1, .cons h q => .cons h (DqA.take n q)
theorem DqA.drop : ∀ {vs : List V} {ds : List Dt} (n : Nat), DqA H vs ds → DqA H (vs.drop n) (ds.drop n)
  | _, _, 0, q => q
  | _, _, _ + 1, .nil => .nil
  | _, _, n + 1, .cons _ q => DqA.drop n q
theorem DqA.one {v : V} {d : Dt} (h : Dq H v d) : DqA H [v] [d] := .cons h .nil
theorem DqA.snoc {vs : List V} {ds : List Dt} {v : V} {d : Dt} (q : DqA H vs ds) (h : Dq H v d) : DqA H (vs ++ [v]) (ds ++ [d]) := q.append (.one h)
theorem DqA.ints : ∀ {vs : List V} {ns : List Int}, DqA H vs (ns.map Dt.int) → vs = ns.map V.int
  | _, [], .nil => rfl
  | _, n :: ns, .cons h q => by cases h; rw [DqA.ints q]; rfl
theorem DqA.bls : ∀ {vs : List V} {ns : List Bool}, DqA H vs (ns.map Dt.bl) → vs = ns.map V.bl
  | _, [], .nil => rfl
  | _, n :: ns, .cons h q => by cases h; rw [DqA.bls q]; rfl
theorem DqA.strs : ∀ {vs : List V} {ns : List Str}, DqA H vs (ns.map Dt.str) → vs = ns.map V.str
  | _, [], .nil => rfl
  | _, n :: ns, .cons h q => by cases h; rw [DqA.strs q]; rfl
theorem DqA.ofInts : ∀ (ns : List Int), DqA H (ns.map V.int) (ns.map Dt.int)
  | [] => .nil
  | n :: ns => .cons (.int n) (DqA.ofInts ns)
theorem DqA.ofStrs : ∀ (ns : List Str), DqA H (ns.map V.str) (ns.map Dt.str)
  | [] => .nil
  | n :: ns => .cons (.str n) (DqA.ofStrs ns)
end

/-! ### what a slot holds, what changes -/
/-- unknown; data; an object that may change, by its address -/
inductive SV where
  | no | dat (d : Dt) | at (p : Addr) | ty (n : String) | sc (K : PySem.W.Frag) (a : Addr) (ns : List Int)
/-- what is known of an object that may change: the law's pot of draws; a list of data; a dict -/
inductive MO where
  | pot | lst (ds : List Dt) | dic (ks : List Key) (vs : List Dt)
abbrev Mus := Addr → Option MO
def Mus.put (μ : Mus) (p : Addr) (o : MO) : Mus := fun q => if q = p then some o else μ q
theorem put_same {μ : Mus} {p : Addr} {o : MO} : μ.put p o p = some o := by unfold Mus.put; rw [if_pos rfl]
theorem put_ne {μ : Mus} {p q : Addr} {o : MO} (h : q ≠ p) : μ.put p o q = μ q := by unfold Mus.put; rw [if_neg h]
theorem put_put {μ : Mus} {p : Addr} {o o' : MO} : (μ.put p o).put p o' = μ.put p o' := by
  funext q; unfold Mus.put; split <;> rfl
theorem put_self {μ : Mus} {p : Addr} {o : MO} (h : μ p = some o) : μ.put p o = μ := by
  funext q; unfold Mus.put; split
  · rename_i e; rw [e, h]
  · rfl
def Mus.Sub (μ ν : Mus) : Prop := ∀ p o, μ p = some o → ν p = some o
theorem Mus.Sub.refl (μ : Mus) : μ.Sub μ := fun _ _ h => h
theorem Mus.Sub.trans {μ ν ξ : Mus} (a : μ.Sub ν) (b : ν.Sub ξ) : μ.Sub ξ := fun p o h => b p o (a p o h)
theorem Mus.Sub.put {μ ν : Mus} {p : Addr} {o : MO} (h : μ.Sub ν) (hp : μ p = none) : μ.Sub (ν.put p o) := fun q u e => by
  rw [put_ne (fun z => by rw [z, hp] at e; cases e)]; exact h q u e

def MoOk (B H : Hp) (p : Addr) : MO → Prop
  | .pot => ∃ a b : Int, 0 ≤ a ∧ 0 ≤ b ∧ b < 4294967296 ∧ H p = some (.lst [.int a, .int b])
  | .lst ds => ∃ xs, H p = some (.lst xs) ∧ DqA B xs ds
  | .dic ks vs => ∃ kvs : List (Key × V), H p = some (.dK kvs) ∧ kvs.map (·.1) = ks ∧ DqA B (kvs.map (·.2)) vs
theorem MoOk.mono {B B' H H' : Hp} {p : Addr} {o : MO} (h : MoOk B H p o) (e : Ex B B') (k : H' p = H p) : MoOk B' H' p o := by
  cases o with
  | pot => obtain ⟨a, b, h1, h2, h3, h4⟩ := h; exact ⟨a, b, h1, h2, h3, by rw [k]; exact h4⟩
  | lst ds => obtain ⟨xs, h1, h2⟩ := h; exact ⟨xs, by rw [k]; exact h1, h2.mono e⟩
  | dic ks vs => obtain ⟨kvs, h1, h2, h3⟩ := h; exact ⟨kvs, by rw [k]; exact h1, h2, h3.mono e⟩
theorem MoOk.there {B H : Hp} {p : Addr} {o : MO} (h : MoOk B H p o) : H p ≠ none := by
  cases o with
  | pot => obtain ⟨a, b, _, _, _, h4⟩ := h; rw [h4]; exact nofun
  | lst ds => obtain ⟨xs, h1, _⟩ := h; rw [h1]; exact nofun
  | dic ks vs => obtain ⟨kvs, h1, _⟩ := h; rw [h1]; exact nofun

/-- a def's entry: what of data was known, the heap, which objects it may change -/
structure Wd where
  B : Hp
  H : Hp
  M : Addr → Prop
structure SInv (w : Wd) (B H : Hp) (μ : Mus) : Prop where
  b0 : Ex w.B B
  bh : Ex B H
  keep : ∀ q o, ¬ w.M q → w.H q = some o → H q = some o
  there : ∀ q, w.H q ≠ none → H q ≠ none
  out : ∀ q, w.H q ≠ none → w.B q = none → B q = none
  mus : ∀ p o, μ p = some o → B p = none ∧ MoOk B H p o ∧ (w.M p ∨ w.H p = none)

section
variable {w : Wd} {B H : Hp} {μ : Mus} {p : Addr} {o : HO}
theorem SInv.free (I : SInv w B H μ) (hp : H p = none) : B p = none ∧ μ p = none ∧ w.H p = none := by
  refine ⟨I.bh.none hp, ?_, ?_⟩
  · cases e : μ p with
    | none => rfl
    | some o => exact absurd hp (I.mus p o e).2.1.there
  · cases e : w.H p with
    | none => rfl
    | some o => exact absurd hp (I.there p (by rw [e]; exact nofun))
/-- new data -/
theorem SInv.new (I : SInv w B H μ) (hp : H p = none) (o : HO) : SInv w (upd B p o) (upd H p o) μ := by
  obtain ⟨hb, hm, hw⟩ := I.free hp
  have ne : ∀ q, H q ≠ none → q ≠ p := fun q h e => h (e ▸ hp)
  refine ⟨I.b0.mut (I.b0.none hb), I.bh.both, fun q u hM hq => ?_, fun q hq => ?_, fun q hq hB => ?_, fun q u hq => ?_⟩
  · rw [upd_ne (ne q (I.there q (by rw [hq]; exact nofun)))]; exact I.keep q u hM hq
  · rw [upd_ne (ne q (I.there q hq))]; exact I.there q hq
  · rw [upd_ne (ne q (I.there q hq))]; exact I.out q hq hB
  · obtain ⟨h1, h2, h3⟩ := I.mus q u hq
    have hne := ne q h2.there
    exact ⟨by rw [upd_ne hne]; exact h1, h2.mono (Ex.new hb) (upd_ne hne), h3⟩
/-- a new object that may change -/
theorem SInv.newM (I : SInv w B H μ) (hp : H p = none) (m : MO) (h : MoOk B (upd H p o) p m) : SInv w B (upd H p o) (μ.put p m) := by
  obtain ⟨hb, hm, hw⟩ := I.free hp
  have ne : ∀ q, H q ≠ none → q ≠ p := fun q h e => h (e ▸ hp)
  refine ⟨I.b0, I.bh.mut hb, fun q u hM hq => ?_, fun q hq => ?_, I.out, fun q u hq => ?_⟩
  · rw [upd_ne (ne q (I.there q (by rw [hq]; exact nofun)))]; exact I.keep q u hM hq
  · rw [upd_ne (ne q (I.there q hq))]; exact I.there q hq
  · by_cases e : q = p
    · subst e
      rw [put_same] at hq
      cases hq
      exact ⟨hb, h, .inr hw⟩
    · rw [put_ne e] at hq
      obtain ⟨h1, h2, h3⟩ := I.mus q u hq
      exact ⟨h1, h2.mono (Ex.refl B) (upd_ne e), h3⟩
/-- it changes -/
theorem SInv.set (I : SInv w B H μ) {m0 : MO} (hm : μ p = some m0) (m : MO) (h : MoOk B (upd H p o) p m) : SInv w B (upd H p o) (μ.put p m) := by
  obtain ⟨hb, h0, hw⟩ := I.mus p m0 hm
  have nw : ∀ q u, ¬ w.M q → w.H q = some u → q ≠ p := fun q u hM hq e => by
    subst e
    rcases hw with k | k
    · exact hM k
    · rw [k] at hq; cases hq
  refine ⟨I.b0, I.bh.mut hb, fun q u hM hq => ?_, fun q hq => ?_, I.out, fun q u hq => ?_⟩
  · rw [upd_ne (nw q u hM hq)]; exact I.keep q u hM hq
  · by_cases e : q = p
    · subst e; rw [upd_same]; exact nofun
    · rw [upd_ne e]; exact I.there q hq
  · by_cases e : q = p
    · subst e
      rw [put_same] at hq
      cases hq
      exact ⟨hb, h, hw⟩
    · rw [put_ne e] at hq
      obtain ⟨h1, h2, h3⟩ := I.mus q u hq
      exact ⟨h1, h2.mono (Ex.refl B) (upd_ne e), h3⟩
theorem SInv.sub (I : SInv w B H μ) {ν : Mus} (s : ν.Sub μ) : SInv w B H ν := ⟨I.b0, I.bh, I.keep, I.there, I.out, fun p o h => I.mus p o (s p o h)⟩
/-- an own list becomes data -/
theorem SInv.freeze (I : SInv w B H μ) {ds : List Dt} {ν : Mus} (hm : μ p = some (.lst ds)) (hw : w.H p = none) (s : ν.Sub μ) (hn : ν p = none) :
    ∃ B', SInv w B' H ν ∧ Ex B B' ∧ Dq B' (.ref p) (.lst ds) := by
  obtain ⟨hb, ⟨xs, h1, h2⟩, _⟩ := I.mus p _ hm
  refine ⟨upd B p (.lst xs), ⟨I.b0.mut (I.b0.none hb), fun q u hq => ?_, I.keep, I.there, fun q hq hB => ?_, fun q u hq => ?_⟩, Ex.new hb, .lst upd_same (h2.mono (Ex.new hb))⟩
  · by_cases e : q = p
    · subst e; rw [upd_same] at hq; cases hq; exact h1
    · rw [upd_ne e] at hq; exact I.bh q u hq
  · rw [upd_ne (fun e => hq (by rw [e]; exact hw))]; exact I.out q hq hB
  · have e : q ≠ p := fun z => by rw [z, hn] at hq; cases hq
    obtain ⟨h1, h2, h3⟩ := I.mus q u (s q u hq)
    exact ⟨by rw [upd_ne e]; exact h1, h2.mono (Ex.new hb) rfl, h3⟩
/-- behind a call: from the callee's world to the caller's -/
theorem SInv.back (I : SInv w B H μ) {B' H' : Hp} {μ' : Mus} (J : SInv ⟨B, H, fun p => μ p ≠ none⟩ B' H' μ') : SInv w B' H' μ' := by
  refine ⟨I.b0.trans J.b0, J.bh, fun q u hM hq => ?_, fun q hq => J.there q (I.there q hq), fun q hq hB => J.out q (I.there q hq) (I.out q hq hB), fun q u hq => ?_⟩
  · refine J.keep q u (fun z => ?_) (I.keep q u hM hq)
    cases e : μ q with
    | none => exact z e
    | some m =>
      rcases (I.mus q m e).2.2 with k | k
      · exact hM k
      · rw [k] at hq; cases hq
  · obtain ⟨h1, h2, h3⟩ := J.mus q u hq
    refine ⟨h1, h2, ?_⟩
    rcases h3 with k | k
    · cases e : μ q with
      | none => exact absurd e k
      | some m => exact (I.mus q m e).2.2
    · refine .inr ?_
      cases e : w.H q with
      | none => rfl
      | some o => exact absurd k (I.there q (by rw [e]; exact nofun))
theorem SInv.start {B H : Hp} {μ : Mus} (e : Ex B H) (h : ∀ p o, μ p = some o → B p = none ∧ MoOk B H p o) : SInv ⟨B, H, fun p => μ p ≠ none⟩ B H μ :=
  ⟨Ex.refl B, e, fun _ _ _ h => h, fun _ h => h, fun _ _ h => h, fun p o q => ⟨(h p o q).1, (h p o q).2, .inl (show μ p ≠ none by rw [q]; exact nofun)⟩⟩
end

def Svq (B : Hp) (v : V) : SV → Prop
  | .no => True
  | .dat d => Dq B v d
  | .at p => v = .ref p
  | .ty n => v = .ty n
  | .sc K a ns => v = .ref a ∧ SqL K B a (ns.map V.int)
theorem Svq.mono {B B' : Hp} {v : V} {r : SV} (e : Ex B B') (h : Svq B v r) : Svq B' v r := by
  cases r with
  | no => trivial
  | dat d => exact Dq.mono e h
  | «at» p => exact h
  | ty n => exact h
  | sc K a ns => exact ⟨h.1, h.2.elim (fun z => .inl (z.elim (fun q => .inl (e _ _ q)) fun ⟨c, q⟩ => .inr ⟨c, e _ _ q⟩)) .inr⟩
inductive SvA (B : Hp) : List V → List SV → Prop
  | nil : SvA B [] []
  | cons {v : V} {vs : List V} {r : SV} {rs : List SV} : Svq B v r → SvA B vs rs → SvA B (v :: vs) (r :: rs)
theorem SvA.mono {B B' : Hp} (e : Ex B B') : ∀ {vs : List V} {rs : List SV}, SvA B vs rs → SvA B' vs rs
  | _, _, .nil => .nil
  | _, _, .cons h q => .cons (h.mono e) (SvA.mono e q)
theorem SvA.length {B : Hp} : ∀ {vs : List V} {rs : List SV}, SvA B vs rs → vs.length = rs.length
  | _, _, .nil => rfl
  | _, _, .cons _ q => by rw [List.length_cons, List.length_cons, SvA.length q]

/-- the slots, by what they hold -/
structure Sto (B : Hp) (σ : L2.St) (ρ : List SV) : Prop where
  len : σ.length = ρ.length
  get : ∀ (i : Nat) (r : SV), ρ[i]? = some r → r = .no ∨ ∃ v, σ[i]? = some (some v) ∧ Svq B v r
theorem Sto.mono {B B' : Hp} {σ : L2.St} {ρ : List SV} (e : Ex B B') (S : Sto B σ ρ) : Sto B' σ ρ := ⟨S.len, fun i r h => by
  rcases S.get i r h with q | ⟨v, h1, h2⟩
  · exact .inl q
  · exact .inr ⟨v, h1, h2.mono e⟩⟩
theorem Sto.set {B : Hp} {σ : L2.St} {ρ : List SV} (S : Sto B σ ρ) (i : Nat) {v : V} {r : SV} (h : Svq B v r) : Sto B (σ.set i (some v)) (ρ.set i r) := ⟨by rw [List.length_set, List.length_set, S.len], fun j u hj => by
  by_cases e : i = j
  · subst e
    by_cases hl : i < ρ.length
    · rw [List.getElem?_set_self hl] at hj
      cases hj
      exact .inr ⟨v, by rw [List.getElem?_set_self (by rw [S.len]; exact hl)], h⟩
    · rw [List.getElem?_eq_none (by rw [List.length_set]; omega)] at hj
      cases hj
  · rw [List.getElem?_set_ne e] at hj ⊢
    exact S.get j u hj⟩
theorem Sto.wipe {B : Hp} {σ : L2.St} {ρ : List SV} (S : Sto B σ ρ) : ∀ (vs : List Nat) (ρ' : List SV), ρ'.length = ρ.length → (∀ (i : Nat) r, ρ'[i]? = some r → r = .no ∨ (i ∉ vs ∧ ρ[i]? = some r)) → Sto B (L2.wipe σ vs) ρ' := fun vs ρ' hl h => by
  refine ⟨by rw [wipe_length, S.len, hl], fun i r hi => ?_⟩
  rcases h i r hi with e | ⟨hn, e⟩
  · exact .inl e
  · rcases S.get i r e with e | ⟨v, h1, h2⟩
    · exact .inl e
    · refine .inr ⟨v, ?_, h2⟩
      clear hi h e
      induction vs with
      | nil => exact h1
      | cons x xs ih =>
        unfold L2.wipe
        rw [List.getElem?_set_ne (fun z => hn (by rw [← z]; exact List.mem_cons_self))]
        exact ih fun z => hn (List.mem_cons_of_mem _ z)
end Dat

set_option Elab.async false
set_option linter.all false
set_option maxRecDepth 100000
set_option maxHeartbeats 4000000
/-! Dat1: the judgements over data, and the rules that follow the text. -/
namespace Dat
open PySem PySem.Spec PyProof.Rows L2

/-! ### what is meant, with no reading given -/
def tE (X : Cx) (e : Expr) : TE := fun σ H Q => ∀ pins s, Inv X pins σ H s → wpAny (model X.prog X.w) X.A (eval e X.env) (EP X pins σ Q) X.xe s
def tT (X : Cx) (e : Expr) : TT := fun σ H Q => ∀ pins s, Inv X pins σ H s → wpAny (model X.prog X.w) X.A (isTrue e X.env (eval e X.env)) (TP X pins σ Q) X.xe s
def tW (X : Cx) (e : Expr) : TT := fun σ H Q => ∀ (whole : Sem Value) pins s, Inv X pins σ H s → wpAny (model X.prog X.w) X.A (isTrue e X.env whole) (TP X pins σ Q) X.xe s
def tL (X : Cx) (es : List Expr) : TA := fun σ H Q => ∀ (pos : Pos) pins s, Inv X pins σ H s → wpAny (model X.prog X.w) X.A (spliced (backTo pos (starEach es X.env))) (AP X pins σ Q) X.xe s
def tS (X : Cx) (st : Stmt) : TS := fun D σ H => ∀ pins s, Inv X pins σ H s → wpAny (model X.prog X.w) X.A (exec st X.env) (SP X pins D) X.xe s
def tB_ (X : Cx) (sts : List Stmt) : TS := fun D σ H => ∀ pins s, Inv X pins σ H s → wpAny (model X.prog X.w) X.A (execs sts X.env) (SP X pins D) X.xe s
def tG (X : Cx) (tg : Expr) : TG := fun v σ H Q => ∀ pins s u, Inv X pins σ H s → RelV v u → wpAny (model X.prog X.w) X.A (assign tg X.env u) (fun _ s' => ∃ σ' H', Inv X pins σ' H' s' ∧ Q σ' H') X.xe s
def tI (X : Cx) (tg e : Expr) : TI := fun σ H R => ∀ pins s, Inv X pins σ H s → wpAny (model X.prog X.w) X.A (eval e X.env) (fun v s1 => wpAny (model X.prog X.w) X.A (pyIter v) (PIE X pins σ tg R) X.xe s1) X.xe s
def tP (X : Cx) (e : Option Expr) : TO := fun σ H Q => ∀ pins s, Inv X pins σ H s → wpAny (model X.prog X.w) X.A (evalPart e X.env) (fun u s' => ∃ o H', Inv X pins σ H' s' ∧ IsPart u o ∧ Q o H') X.xe s
def sO (X : Cx) (f : Value → Value → Sem Value) : R2 := fun x y H Q => ∀ pins s σ v u, Inv X pins σ H s → RelV x v → RelV y u → wpAny (model X.prog X.w) X.A (f v u) (EP X pins σ Q) X.xe s
def sU (X : Cx) (f : Value → Sem Value) : V → Hp → VK → Prop := fun x H Q => ∀ pins s σ v, Inv X pins σ H s → RelV x v → wpAny (model X.prog X.w) X.A (f v) (EP X pins σ Q) X.xe s
def sC (X : Cx) (f : Value) : List V → Hp → VK → Prop := fun xs H Q => ∀ pins s σ us, Inv X pins σ H s → Vals xs us → wpAny (model X.prog X.w) X.A (call f us) (EP X pins σ Q) X.xe s
def sM (X : Cx) (id : String) : V → List V → Hp → VK → Prop := fun x xs H Q => ∀ pins s σ v us, Inv X pins σ H s → RelV x v → Vals xs us → wpAny (model X.prog X.w) X.A (call (.builtin id) (v :: us)) (EP X pins σ Q) X.xe s
def sIx (X : Cx) : R2 := fun x y H Q => ∀ (value slice : Expr) pins s σ v u, Inv X pins σ H s → RelV x v → RelV y u → subscripted slice false v u = operate [v, u] (getItem v u) → wpAny (model X.prog X.w) X.A (subscriptTail value slice v u) (EP X pins σ Q) X.xe s
def sSl (X : Cx) : V → Option Int → Option Int → Hp → VK → Prop := fun x lo hi H Q => ∀ pins s σ v vl vu (sl : Addr), Inv X pins σ H s → RelV x v → s.heap.IsSliceOf sl vl vu .none → IsPart vl lo → IsPart vu hi →
  ∃ T id, typeLookup (.type T) "__getitem__" = pure (some (.builtin id)) ∧ s.TypeIs v T ∧ wpAny (model X.prog X.w) X.A (getItem v (.ref sl)) (EP X pins σ Q) X.xe s
section
variable {X : Cx} {e : Expr} {es : List Expr} {σ : L2.St} {H : Hp}
theorem pe_self : PE X e (tE X e) := ⟨fun pins s _ _ _ I h => h pins s I⟩
theorem pt_self : PT X e (tT X e) := ⟨fun pins s _ _ _ I h => h pins s I⟩
theorem pw_self : PW X e (tW X e) := ⟨fun whole pins s _ _ _ I h => h whole pins s I⟩
theorem pa_self : PA X es (tL X es) := ⟨fun pos pins s _ _ _ I h => h pos pins s I⟩
theorem ps_self {st : Stmt} : PS X st (tS X st) := ⟨fun pins s _ _ _ I h => h pins s I⟩
theorem pss_self {sts : List Stmt} : PSs X sts (tB_ X sts) := ⟨fun pins s _ _ _ I h => h pins s I⟩
theorem pg_self : PG X e (tG X e) := ⟨fun pins s _ _ _ u _ I r h => h pins s u I r⟩
theorem pi_self {tg : Expr} : PI X tg e (tI X tg e) := ⟨fun pins s _ _ _ I h => h pins s I⟩
theorem po_self {o : Option Expr} : PO X o (tP X o) := ⟨fun pins s _ _ _ I h => h pins s I⟩
theorem or_self {f : Value → Value → Sem Value} : OpR X f (sO X f) := fun pins s σ _ _ _ v u _ I rx ry h => h pins s σ v u I rx ry
theorem ur_self {f : Value → Sem Value} : UnR X f (sU X f) := fun pins s σ _ _ v _ I rx h => h pins s σ v I rx
theorem cr_self {f : Value} : CallR X f (sC X f) := fun pins s σ _ _ us _ I r h => h pins s σ us I r
theorem mr_self {id : String} : MtR X id (sM X id) := fun pins s σ _ _ _ v us _ I r rs h => h pins s σ v us I r rs
theorem ix_self : IxR X (sIx X) := fun value slice pins s σ _ _ _ v u _ I rx ry h hs => h value slice pins s σ v u I rx ry hs
theorem sl_self : SlR X (sSl X) := fun pins s σ _ _ v vl vu _ _ sl _ I rx hs pl pu h => h pins s σ v vl vu sl I rx hs pl pu
theorem tE_of {t : TE} {Q : VK} (h : PE X e t) (q : t σ H Q) : tE X e σ H Q := fun pins s I => h.run pins s σ H Q I q
theorem tT_of {t : TT} {Q : Bool → Hp → Prop} (h : PT X e t) (q : t σ H Q) : tT X e σ H Q := fun pins s I => h.run pins s σ H Q I q
theorem tW_of {t : TT} {Q : Bool → Hp → Prop} (h : PW X e t) (q : t σ H Q) : tW X e σ H Q := fun whole pins s I => h.run whole pins s σ H Q I q
theorem tL_of {t : TA} {Q : List V → Hp → Prop} (h : PA X es t) (q : t σ H Q) : tL X es σ H Q := fun pos pins s I => h.run pos pins s σ H Q I q
theorem tS_of {st : Stmt} {t : TS} {D : Ends} (h : PS X st t) (q : t D σ H) : tS X st D σ H := fun pins s I => h.run pins s σ H D I q
theorem tB_of {sts : List Stmt} {t : TS} {D : Ends} (h : PSs X sts t) (q : t D σ H) : tB_ X sts D σ H := fun pins s I => h.run pins s σ H D I q
theorem tG_of {t : TG} {v : V} {Q : L2.St → Hp → Prop} (h : PG X e t) (q : t v σ H Q) : tG X e v σ H Q := fun pins s u I r => h.run pins s σ H v u Q I r q
theorem tI_of {tg : Expr} {t : TI} {R : It → Hp → Prop} (h : PI X tg e t) (q : t σ H R) : tI X tg e σ H R := fun pins s I => h.run pins s σ H R I q
theorem tP_of {o : Option Expr} {t : TO} {Q : Option Int → Hp → Prop} (h : PO X o t) (q : t σ H Q) : tP X o σ H Q := fun pins s I => h.run pins s σ H Q I q
theorem sO_of {f : Value → Value → Sem Value} {r : R2} {x y : V} {Q : VK} (h : OpR X f r) (q : r x y H Q) : sO X f x y H Q := fun pins s σ v u I rx ry => h pins s σ H x y v u Q I rx ry q
theorem sU_of {f : Value → Sem Value} {r : V → Hp → VK → Prop} {x : V} {Q : VK} (h : UnR X f r) (q : r x H Q) : sU X f x H Q := fun pins s σ v I rx => h pins s σ H x v Q I rx q
theorem sC_of {f : Value} {r : List V → Hp → VK → Prop} {xs : List V} {Q : VK} (h : CallR X f r) (q : r xs H Q) : sC X f xs H Q := fun pins s σ us I rx => h pins s σ H xs us Q I rx q
theorem sM_of {id : String} {r : V → List V → Hp → VK → Prop} {x : V} {xs : List V} {Q : VK} (h : MtR X id r) (q : r x xs H Q) : sM X id x xs H Q := fun pins s σ v us I rx rs => h pins s σ H x xs v us Q I rx rs q
theorem sIx_of {r : R2} {x y : V} {Q : VK} (h : IxR X r) (q : r x y H Q) : sIx X x y H Q := fun value slice pins s σ v u I rx ry hs => h value slice pins s σ H x y v u Q I rx ry q hs
theorem sSl_of {r : V → Option Int → Option Int → Hp → VK → Prop} {x : V} {lo hi : Option Int} {Q : VK} (h : SlR X r) (q : r x lo hi H Q) : sSl X x lo hi H Q := fun pins s σ v vl vu sl I rx hs pl pu => h pins s σ H x v vl vu lo hi sl Q I rx hs pl pu q
end

/-! ### the judgements -/
/-- what is wanted of a value -/
def Kt (w : Wd) (B : Hp) (R : SV → Mus → Prop) (Q : VK) : Prop := ∀ v r B' H' μ', SInv w B' H' μ' → Ex B B' → Svq B' v r → R r μ' → Q v H'
theorem Kt.mono {w : Wd} {B B' : Hp} {R : SV → Mus → Prop} {Q : VK} (e : Ex B B') (k : Kt w B R Q) : Kt w B' R Q := fun v r B2 H2 μ2 I e2 => k v r B2 H2 μ2 I (e.trans e2)
def DE (X : Cx) (w : Wd) (e : Expr) (ρ : List SV) (μ : Mus) (R : SV → Mus → Prop) : Prop :=
  ∀ σ B H, Sto B σ ρ → SInv w B H μ → ∀ Q : VK, Kt w B R Q → tE X e σ H Q
def DT (X : Cx) (w : Wd) (e : Expr) (ρ : List SV) (μ : Mus) (R : Bool → Mus → Prop) : Prop :=
  ∀ σ B H, Sto B σ ρ → SInv w B H μ → ∀ Q : Bool → Hp → Prop, (∀ b B' H' μ', SInv w B' H' μ' → Ex B B' → R b μ' → Q b H') → tT X e σ H Q
def DW (X : Cx) (w : Wd) (e : Expr) (ρ : List SV) (μ : Mus) (R : Bool → Mus → Prop) : Prop :=
  ∀ σ B H, Sto B σ ρ → SInv w B H μ → ∀ Q : Bool → Hp → Prop, (∀ b B' H' μ', SInv w B' H' μ' → Ex B B' → R b μ' → Q b H') → tW X e σ H Q
def DA (X : Cx) (w : Wd) (es : List Expr) (ρ : List SV) (μ : Mus) (R : List SV → Mus → Prop) : Prop :=
  ∀ σ B H, Sto B σ ρ → SInv w B H μ → ∀ Q : List V → Hp → Prop, (∀ vs rs B' H' μ', SInv w B' H' μ' → Ex B B' → SvA B' vs rs → R rs μ' → Q vs H') → tL X es σ H Q
def DP (X : Cx) (w : Wd) (e : Option Expr) (ρ : List SV) (μ : Mus) (R : Option Int → Mus → Prop) : Prop :=
  ∀ σ B H, Sto B σ ρ → SInv w B H μ → ∀ Q : Option Int → Hp → Prop, (∀ o B' H' μ', SInv w B' H' μ' → Ex B B' → R o μ' → Q o H') → tP X e σ H Q
/-- a target takes a value -/
def DG (X : Cx) (w : Wd) (tg : Expr) (r : SV) (ρ : List SV) (μ : Mus) (R : List SV → Mus → Prop) : Prop :=
  ∀ σ B H v, Sto B σ ρ → SInv w B H μ → Svq B v r → ∀ Q : L2.St → Hp → Prop, (∀ σ' B' H' ρ' μ', Sto B' σ' ρ' → SInv w B' H' μ' → Ex B B' → R ρ' μ' → Q σ' H') → tG X tg v σ H Q
/-- operations on values -/
def OpD (X : Cx) (w : Wd) (f : Value → Value → Sem Value) (r r' : SV) (μ : Mus) (R : SV → Mus → Prop) : Prop :=
  ∀ B H v u, SInv w B H μ → Svq B v r → Svq B u r' → ∀ Q, Kt w B R Q → sO X f v u H Q
def UnD (X : Cx) (w : Wd) (f : Value → Sem Value) (r : SV) (μ : Mus) (R : SV → Mus → Prop) : Prop :=
  ∀ B H v, SInv w B H μ → Svq B v r → ∀ Q, Kt w B R Q → sU X f v H Q
def CaD (X : Cx) (w : Wd) (f : Value) (rs : List SV) (μ : Mus) (R : SV → Mus → Prop) : Prop :=
  ∀ B H vs, SInv w B H μ → SvA B vs rs → ∀ Q, Kt w B R Q → sC X f vs H Q
def MtD (X : Cx) (w : Wd) (id : String) (r : SV) (rs : List SV) (μ : Mus) (R : SV → Mus → Prop) : Prop :=
  ∀ B H v vs, SInv w B H μ → Svq B v r → SvA B vs rs → ∀ Q, Kt w B R Q → sM X id v vs H Q
def IxD (X : Cx) (w : Wd) (r r' : SV) (μ : Mus) (R : SV → Mus → Prop) : Prop :=
  ∀ B H v u, SInv w B H μ → Svq B v r → Svq B u r' → ∀ Q, Kt w B R Q → sIx X v u H Q
def SlD (X : Cx) (w : Wd) (r : SV) (lo hi : Option Int) (μ : Mus) (R : SV → Mus → Prop) : Prop :=
  ∀ B H v, SInv w B H μ → Svq B v r → ∀ Q, Kt w B R Q → sSl X v lo hi H Q
/-- the type of a receiver of a built-in type's method -/
def TyD (K : PySem.W.Frag) (T : String) (r : SV) (μ : Mus) : Prop := ∀ w B H v, SInv w B H μ → Svq B v r → tyV K T v H

/-! ### expressions by their text -/
section
variable {X : Cx} {w : Wd} {ρ : List SV} {μ : Mus} {R : SV → Mus → Prop} {a b c e : Expr} {es : List Expr} {pos p : Pos} {x : Str}
theorem DE.imp {R' : SV → Mus → Prop} (h : DE X w e ρ μ R') (k : ∀ r μ', R' r μ' → R r μ') : DE X w e ρ μ R := fun σ B H S I Q q => h σ B H S I Q fun v r B' H' μ' I' e' s' z => q v r B' H' μ' I' e' s' (k r μ' z)
theorem DT.imp {R R' : Bool → Mus → Prop} (h : DT X w e ρ μ R') (k : ∀ b μ', R' b μ' → R b μ') : DT X w e ρ μ R := fun σ B H S I Q q => h σ B H S I Q fun b B' H' μ' I' e' z => q b B' H' μ' I' e' (k b μ' z)
theorem de_name (i : Nat) {r : SV} (hr : ρ[i]? = some r) (h : R r μ) (hne : r ≠ .no := by exact nofun) (hN : X.N[i]? = some x := by rfl)
    (hv : Vis X.env.scope x := by first | exact Or.inl rfl | exact Or.inr (Or.inl rfl) | exact Or.inr (Or.inr rfl)) (hd : (x == ("__debug__" : Str)) = false := by decide)
    (hcd : (x == ("__classdict__" : Str)) = false := by decide) : DE X w (.Name x pos) ρ μ R := fun σ B H S I Q k => by
  rcases S.get i r hr with z | ⟨v, hs, q⟩
  · exact absurd z hne
  · exact tE_of (pe_var hN hv hd hcd) ⟨v, hs, k v r B H μ I (Ex.refl B) q h⟩
theorem de_int {i : Int} {j} (h : R (.dat (.int i)) μ) : DE X w (.Constant (.int i) j pos) ρ μ R := fun σ B H _ I Q k => tE_of pe_int (k (.int i) (.dat (.int i)) B H μ I (Ex.refl B) (Dq.int i) h)
theorem de_str {z : Str} {j} (h : R (.dat (.str z)) μ) : DE X w (.Constant (.str z) j pos) ρ μ R := fun σ B H _ I Q k => tE_of pe_str (k (.str z) (.dat (.str z)) B H μ I (Ex.refl B) (Dq.str z) h)
theorem de_bl {z : Bool} {j} (h : R (.dat (.bl z)) μ) : DE X w (.Constant (.bool z) j pos) ρ μ R := fun σ B H _ I Q k => tE_of pe_bl (k (.bl z) (.dat (.bl z)) B H μ I (Ex.refl B) (Dq.bl z) h)
theorem de_non {j} (h : R (.dat .non) μ) : DE X w (.Constant .none j pos) ρ μ R := fun σ B H _ I Q k => tE_of pe_non (k .non (.dat .non) B H μ I (Ex.refl B) Dq.non h)
/-- a module's whole number -/
theorem de_globI {i : Int} (hm : ∃ t, X.mg x = some (.int i t)) (h : R (.dat (.int i)) μ) (hg : Gl X x := by rfl) (hd : (x == ("__debug__" : Str)) = false := by decide) : DE X w (.Name x pos) ρ μ R := fun σ B H _ I Q k => by
  obtain ⟨t, hm⟩ := hm
  exact tE_of (pe_glob (v := .int i) hg hm ⟨t, rfl⟩ hd) (k (.int i) (.dat (.int i)) B H μ I (Ex.refl B) (Dq.int i) h)
theorem de_op {op : Operator} (ha : DE X w a ρ μ fun r μ1 => DE X w b ρ μ1 fun r' μ2 => OpD X w (binaryOp op) r r' μ2 R) : DE X w (.BinOp a op b pos) ρ μ R := fun σ B H S I Q k =>
  tE_of (pe_op (or_self (f := binaryOp op)) pe_self pe_self) (ha σ B H S I _ fun v r B1 H1 μ1 I1 e1 q1 h1 => h1 σ B1 H1 (S.mono e1) I1 _ fun u r' B2 H2 μ2 I2 e2 q2 h2 =>
    h2 B2 H2 v u I2 (q1.mono e2) q2 Q (k.mono (e1.trans e2)))
theorem de_un {op : UnaryOp} (ha : DE X w a ρ μ fun r μ1 => UnD X w (unaryOp op) r μ1 R) : DE X w (.UnaryOp op a pos) ρ μ R := fun σ B H S I Q k =>
  tE_of (pe_un (ur_self (f := unaryOp op)) pe_self) (ha σ B H S I _ fun v r B1 H1 μ1 I1 e1 q1 h1 => h1 B1 H1 v I1 q1 Q (k.mono e1))
theorem de_cmp {op : CmpOp} (ha : DE X w a ρ μ fun r μ1 => DE X w b ρ μ1 fun r' μ2 => OpD X w (compareOp op) r r' μ2 R) (hm : behindInMarks op b = false := by first | exact nomark _ | rfl) : DE X w (.Compare a [op] [b] pos) ρ μ R := fun σ B H S I Q k =>
  tE_of (pe_cmpR (or_self (f := compareOp op)) pe_self pe_self hm) (ha σ B H S I _ fun v r B1 H1 μ1 I1 e1 q1 h1 => h1 σ B1 H1 (S.mono e1) I1 _ fun u r' B2 H2 μ2 I2 e2 q2 h2 =>
    h2 B2 H2 v u I2 (q1.mono e2) q2 Q (k.mono (e1.trans e2)))
/-- a value that is a truth -/
def BoolR (r : SV) (k : Bool → Prop) : Prop := ∃ b, r = .dat (.bl b) ∧ k b
theorem de_chain {op op' : CmpOp} (ha : DE X w a ρ μ fun r μ1 => DE X w b ρ μ1 fun r' μ2 => OpD X w (compareOp op) r r' μ2 fun z μ3 => BoolR z fun t =>
      (t = true → DE X w c ρ μ3 fun r'' μ4 => OpD X w (compareOp op') r' r'' μ4 R) ∧ (t = false → R (.dat (.bl false)) μ3)) (hm : lastMarks [op, op'] [b, c] = false := by with_unfolding_all rfl) :
    DE X w (.Compare a [op, op'] [b, c] pos) ρ μ R := fun σ B H S I Q k => by
  refine tE_of (pe_chain (or_self (f := compareOp op)) (or_self (f := compareOp op')) pe_self pe_self pe_self hm) ?_
  refine ha σ B H S I _ fun v r B1 H1 μ1 I1 e1 q1 h1 => h1 σ B1 H1 (S.mono e1) I1 _ fun u r' B2 H2 μ2 I2 e2 q2 h2 => h2 B2 H2 v u I2 (q1.mono e2) q2 _ fun z rz B3 H3 μ3 I3 e3 q3 h3 => ?_
  obtain ⟨t, rfl, ht, hf⟩ := h3
  cases q3
  refine ⟨t, rfl, ?_⟩
  cases t with
  | true =>
    rw [if_pos rfl]
    exact ht rfl σ B3 H3 (S.mono (e1.trans (e2.trans e3))) I3 _ fun u4 r4 B4 H4 μ4 I4 e4 q4 h4 => h4 B4 H4 u u4 I4 (q2.mono (e3.trans e4)) q4 Q (k.mono (e1.trans (e2.trans (e3.trans e4))))
  | false =>
    rw [if_neg Bool.false_ne_true]
    exact k (.bl false) (.dat (.bl false)) B3 H3 μ3 I3 (e1.trans (e2.trans e3)) (Dq.bl false) (hf rfl)
theorem de_ix (ha : DE X w a ρ μ fun r μ1 => DE X w b ρ μ1 fun r' μ2 => IxD X w r r' μ2 R) (hs : PlainIx b := by exact fun _ _ => rfl) : DE X w (.Subscript a b pos) ρ μ R := fun σ B H S I Q k =>
  tE_of (pe_ix ix_self pe_self pe_self hs) (ha σ B H S I _ fun v r B1 H1 μ1 I1 e1 q1 h1 => h1 σ B1 H1 (S.mono e1) I1 _ fun u r' B2 H2 μ2 I2 e2 q2 h2 =>
    h2 B2 H2 v u I2 (q1.mono e2) q2 Q (k.mono (e1.trans e2)))
theorem dp_none {R : Option Int → Mus → Prop} (h : R none μ) : DP X w none ρ μ R := fun σ B H _ I Q k => tP_of po_none (k none B H μ I (Ex.refl B) h)
theorem dp_some {R : Option Int → Mus → Prop} (h : DE X w e ρ μ fun r μ1 => ∃ i, r = .dat (.int i) ∧ R (some i) μ1) : DP X w (some e) ρ μ R := fun σ B H S I Q k =>
  tP_of (po_some pe_self) (h σ B H S I _ fun v r B1 H1 μ1 I1 e1 q1 h1 => by
    obtain ⟨i, rfl, h1⟩ := h1
    cases q1
    exact ⟨i, rfl, k _ B1 H1 μ1 I1 e1 h1⟩)
theorem de_slice {lo hi : Option Expr} {p2 : Pos} (ha : DE X w a ρ μ fun r μ1 => DP X w lo ρ μ1 fun l μ2 => DP X w hi ρ μ2 fun u μ3 => SlD X w r l u μ3 R) : DE X w (.Subscript a (.Slice lo hi none p2) pos) ρ μ R := fun σ B H S I Q k =>
  tE_of (pe_slice sl_self pe_self po_self po_self) (ha σ B H S I _ fun v r B1 H1 μ1 I1 e1 q1 h1 => h1 σ B1 H1 (S.mono e1) I1 _ fun l B2 H2 μ2 I2 e2 h2 => h2 σ B2 H2 (S.mono (e1.trans e2)) I2 _ fun u B3 H3 μ3 I3 e3 h3 =>
    h3 B3 H3 v I3 (q1.mono (e2.trans e3)) Q (k.mono (e1.trans (e2.trans e3))))

theorem da_nil {R : List SV → Mus → Prop} (h : R [] μ) : DA X w [] ρ μ R := fun σ B H _ I Q k => tL_of pa_nil (k [] [] B H μ I (Ex.refl B) .nil h)
theorem da_cons {R : List SV → Mus → Prop} (ha : DE X w e ρ μ fun r μ1 => DA X w es ρ μ1 fun rs μ2 => R (r :: rs) μ2) (hs : starEach (e :: es) X.env = (false, eval e X.env) :: starEach es X.env := by rfl) : DA X w (e :: es) ρ μ R := fun σ B H S I Q k =>
  tL_of (pa_cons pe_self pa_self hs) (ha σ B H S I _ fun v r B1 H1 μ1 I1 e1 q1 h1 => h1 σ B1 H1 (S.mono e1) I1 _ fun vs rs B2 H2 μ2 I2 e2 q2 h2 => k _ _ B2 H2 μ2 I2 (e1.trans e2) (.cons (q1.mono e2) q2) h2)
/-- all are data -/
def undat : List SV → Option (List Dt)
  | [] => some []
  | .dat d :: rs => match undat rs with | some ds => some (d :: ds) | none => none
  | _ :: _ => none
theorem undat_q {B : Hp} : ∀ {vs : List V} {rs : List SV} {ds : List Dt}, SvA B vs rs → undat rs = some ds → DqA B vs ds
  | _, _, _, .nil, e => by cases e; exact .nil
  | _, _, _, .cons (r := r) (rs := rs) h q, e => by
    cases r with
    | no => cases e
    | «at» p => cases e
    | ty n => cases e
    | sc K a ns => cases e
    | dat d =>
      unfold undat at e
      cases e2 : undat rs with
      | none => rw [e2] at e; cases e
      | some ds => rw [e2] at e; cases e; exact .cons h (undat_q q e2)
theorem small_ok {n : Nat} (h : n ≤ 1000) : n ≤ sizeLine := Nat.le_trans h (by decide)
theorem de_tup {x1} (h : DA X w es ρ μ fun rs μ1 => ∃ ds, undat rs = some ds ∧ ds.length ≤ 1000 ∧ R (.dat (.tup ds)) μ1) : DE X w (.Tuple es x1 pos) ρ μ R := fun σ B H S I Q k =>
  tE_of (pe_tup pa_self) (h σ B H S I _ fun vs rs B1 H1 μ1 I1 e1 q1 h1 => by
    obtain ⟨ds, e, hl, h1⟩ := h1
    have q := undat_q q1 e
    exact ⟨small_ok (by rw [q.length]; exact hl), fun p hp => k (.ref p) (.dat (.tup ds)) _ _ μ1 (I1.new hp _) (e1.trans (Ex.new (I1.free hp).1)) (Dq.tup upd_same (q.mono (Ex.new (I1.free hp).1))) h1⟩)
theorem de_lst (h : DA X w es ρ μ fun rs μ1 => ∃ ds, undat rs = some ds ∧ ds.length ≤ 1000 ∧ R (.dat (.lst ds)) μ1) : DE X w (.List es pos) ρ μ R := fun σ B H S I Q k =>
  tE_of (pe_lst pa_self) (h σ B H S I _ fun vs rs B1 H1 μ1 I1 e1 q1 h1 => by
    obtain ⟨ds, e, hl, h1⟩ := h1
    have q := undat_q q1 e
    exact ⟨small_ok (by rw [q.length]; exact hl), fun p hp => k (.ref p) (.dat (.lst ds)) _ _ μ1 (I1.new hp _) (e1.trans (Ex.new (I1.free hp).1)) (Dq.lst upd_same (q.mono (Ex.new (I1.free hp).1))) h1⟩)
/-- a list that will change -/
theorem de_lstM (h : DA X w es ρ μ fun rs μ1 => ∃ ds, undat rs = some ds ∧ ds.length ≤ 1000 ∧ ∀ p, μ1 p = none → w.H p = none → R (.at p) (μ1.put p (.lst ds))) : DE X w (.List es pos) ρ μ R := fun σ B H S I Q k =>
  tE_of (pe_lst pa_self) (h σ B H S I _ fun vs rs B1 H1 μ1 I1 e1 q1 h1 => by
    obtain ⟨ds, e, hl, h1⟩ := h1
    have q := undat_q q1 e
    exact ⟨small_ok (by rw [q.length]; exact hl), fun p hp => k (.ref p) (.at p) _ _ (μ1.put p (.lst ds)) (I1.newM hp _ ⟨vs, upd_same, q⟩) e1 rfl (h1 p (I1.free hp).2.1 (I1.free hp).2.2)⟩)
/-- a pot: a list of two whole numbers -/
theorem de_lstPot (h : DA X w es ρ μ fun rs μ1 => ∃ a b, rs = [.dat (.int a), .dat (.int b)] ∧ 0 ≤ a ∧ 0 ≤ b ∧ b < 4294967296 ∧ ∀ p, μ1 p = none → w.H p = none → R (.at p) (μ1.put p .pot)) : DE X w (.List es pos) ρ μ R := fun σ B H S I Q k =>
  tE_of (pe_lst pa_self) (h σ B H S I _ fun vs rs B1 H1 μ1 I1 e1 q1 h1 => by
    obtain ⟨a, b, rfl, ha, hb, hb2, h1⟩ := h1
    have q := undat_q (ds := [.int a, .int b]) q1 rfl
    have ev : vs = [.int a, .int b] := DqA.ints (ns := [a, b]) q
    subst ev
    exact ⟨by show 2 ≤ sizeLine; decide, fun p hp => k (.ref p) (.at p) _ _ (μ1.put p .pot) (I1.newM hp _ ⟨a, b, ha, hb, hb2, upd_same⟩) e1 rfl (h1 p (I1.free hp).2.1 (I1.free hp).2.2)⟩)

/-! ### tests -/
theorem dt_val {R : Bool → Mus → Prop} (h : DE X w e ρ μ fun r μ' => BoolR r fun b => R b μ') (he : ∀ whole, isTrue e X.env whole = (do let v ← whole; standAt e.pos; holding [v] (truthy v)) := by intro _; rfl) : DT X w e ρ μ R := fun σ B H S I Q k =>
  tT_of (pt_val pe_self he) (h σ B H S I _ fun v r B1 H1 μ1 I1 e1 q1 h1 => by
    obtain ⟨b, rfl, h1⟩ := h1
    cases q1
    exact ⟨b, rfl, k b B1 H1 μ1 I1 e1 h1⟩)
theorem dt_cmp {op : CmpOp} {R : Bool → Mus → Prop} (ha : DE X w a ρ μ fun r μ1 => DE X w b ρ μ1 fun r' μ2 => OpD X w (compareOp op) r r' μ2 fun z μ3 => BoolR z fun t => R t μ3) (hm : behindInMarks op b = false := by first | exact nomark _ | rfl) : DT X w (.Compare a [op] [b] pos) ρ μ R := fun σ B H S I Q k =>
  tT_of (pt_cmpR (or_self (f := compareOp op)) pe_self pe_self hm) (ha σ B H S I _ fun v r B1 H1 μ1 I1 e1 q1 h1 => h1 σ B1 H1 (S.mono e1) I1 _ fun u r' B2 H2 μ2 I2 e2 q2 h2 =>
    h2 B2 H2 v u I2 (q1.mono e2) q2 _ fun z rz B3 H3 μ3 I3 e3 q3 ⟨t, hz, h3⟩ => by
      subst hz
      cases q3
      exact ⟨t, rfl, k t B3 H3 μ3 I3 (e1.trans (e2.trans e3)) h3⟩)
theorem dt_chain {op op' : CmpOp} {R : Bool → Mus → Prop} (ha : DE X w a ρ μ fun r μ1 => DE X w b ρ μ1 fun r' μ2 => OpD X w (compareOp op) r r' μ2 fun z μ3 => BoolR z fun t =>
      (t = true → DE X w c ρ μ3 fun r'' μ4 => OpD X w (compareOp op') r' r'' μ4 fun z2 μ5 => BoolR z2 fun t2 => R t2 μ5) ∧ (t = false → R false μ3)) (hm : lastMarks [op, op'] [b, c] = false := by with_unfolding_all rfl) : DT X w (.Compare a [op, op'] [b, c] pos) ρ μ R := fun σ B H S I Q k => by
  refine tT_of (pt_chain (or_self (f := compareOp op)) (or_self (f := compareOp op')) pe_self pe_self pe_self hm) ?_
  refine ha σ B H S I _ fun v r B1 H1 μ1 I1 e1 q1 h1 => h1 σ B1 H1 (S.mono e1) I1 _ fun u r' B2 H2 μ2 I2 e2 q2 h2 => h2 B2 H2 v u I2 (q1.mono e2) q2 _ fun z rz B3 H3 μ3 I3 e3 q3 h3 => ?_
  obtain ⟨t, rfl, ht, hf⟩ := h3
  cases q3
  refine ⟨t, rfl, ?_⟩
  cases t with
  | true =>
    rw [if_pos rfl]
    refine ht rfl σ B3 H3 (S.mono (e1.trans (e2.trans e3))) I3 _ fun u4 r4 B4 H4 μ4 I4 e4 q4 h4 => h4 B4 H4 u u4 I4 (q2.mono (e3.trans e4)) q4 _ fun z2 rz2 B5 H5 μ5 I5 e5 q5 ⟨t2, hz, h5⟩ => ?_
    subst hz
    cases q5
    exact ⟨t2, rfl, k t2 B5 H5 μ5 I5 (e1.trans (e2.trans (e3.trans (e4.trans e5)))) h5⟩
  | false =>
    rw [if_neg Bool.false_ne_true]
    exact ⟨false, rfl, k false B3 H3 μ3 I3 (e1.trans (e2.trans e3)) (hf rfl)⟩
theorem dt_not {R : Bool → Mus → Prop} (h : DT X w e ρ μ fun b μ' => R (!b) μ') : DT X w (.UnaryOp .Not e pos) ρ μ R := fun σ B H S I Q k =>
  tT_of (pt_not pt_self) (h σ B H S I _ fun b B1 H1 μ1 I1 e1 h1 => k (!b) B1 H1 μ1 I1 e1 h1)
theorem dt_w {R : Bool → Mus → Prop} (h : DW X w e ρ μ R) : DT X w e ρ μ R := fun σ B H S I Q k => tT_of pw_self.pt (h σ B H S I Q k)
theorem dw_and1 {R : Bool → Mus → Prop} (h : DT X w e ρ μ R) : DW X w (.BoolOp .And [e] pos) ρ μ R := fun σ B H S I Q k => tW_of (pw_and1 pt_self) (h σ B H S I Q k)
theorem dw_or1 {R : Bool → Mus → Prop} (h : DT X w e ρ μ R) : DW X w (.BoolOp .Or [e] pos) ρ μ R := fun σ B H S I Q k => tW_of (pw_or1 pt_self) (h σ B H S I Q k)
theorem dw_and {R : Bool → Mus → Prop} (h : DT X w a ρ μ fun t μ1 => (t = true → DW X w (.BoolOp .And (b :: es) pos) ρ μ1 R) ∧ (t = false → R false μ1)) : DW X w (.BoolOp .And (a :: b :: es) pos) ρ μ R := fun σ B H S I Q k =>
  tW_of (pw_and pt_self pw_self) (h σ B H S I _ fun t B1 H1 μ1 I1 e1 h1 => by
    cases t with
    | true => rw [if_pos rfl]; exact h1.1 rfl σ B1 H1 (S.mono e1) I1 Q fun t2 B2 H2 μ2 I2 e2 => k t2 B2 H2 μ2 I2 (e1.trans e2)
    | false => rw [if_neg Bool.false_ne_true]; exact k false B1 H1 μ1 I1 e1 (h1.2 rfl))
theorem dw_or {R : Bool → Mus → Prop} (h : DT X w a ρ μ fun t μ1 => (t = true → R true μ1) ∧ (t = false → DW X w (.BoolOp .Or (b :: es) pos) ρ μ1 R)) : DW X w (.BoolOp .Or (a :: b :: es) pos) ρ μ R := fun σ B H S I Q k =>
  tW_of (pw_or pt_self pw_self) (h σ B H S I _ fun t B1 H1 μ1 I1 e1 h1 => by
    cases t with
    | true => rw [if_pos rfl]; exact k true B1 H1 μ1 I1 e1 (h1.1 rfl)
    | false => rw [if_neg Bool.false_ne_true]; exact h1.2 rfl σ B1 H1 (S.mono e1) I1 Q fun t2 B2 H2 μ2 I2 e2 => k t2 B2 H2 μ2 I2 (e1.trans e2))
theorem de_one {op} (h : DE X w e ρ μ R) : DE X w (.BoolOp op [e] pos) ρ μ R := fun σ B H S I Q k => tE_of (pe_one pe_self) (h σ B H S I Q k)
theorem de_and (h : DE X w a ρ μ fun r μ1 => BoolR r fun t => (t = true → DE X w (.BoolOp .And (b :: es) pos) ρ μ1 R) ∧ (t = false → R (.dat (.bl false)) μ1)) : DE X w (.BoolOp .And (a :: b :: es) pos) ρ μ R := fun σ B H S I Q k =>
  tE_of (pe_and pe_self pe_self) (h σ B H S I _ fun v r B1 H1 μ1 I1 e1 q1 h1 => by
    obtain ⟨t, rfl, h1⟩ := h1
    cases q1
    refine ⟨t, rfl, ?_⟩
    cases t with
    | true => rw [if_pos rfl]; exact h1.1 rfl σ B1 H1 (S.mono e1) I1 Q (k.mono e1)
    | false => rw [if_neg Bool.false_ne_true]; exact k (.bl false) (.dat (.bl false)) B1 H1 μ1 I1 e1 (Dq.bl false) (h1.2 rfl))
theorem de_or (h : DE X w a ρ μ fun r μ1 => BoolR r fun t => (t = true → R (.dat (.bl true)) μ1) ∧ (t = false → DE X w (.BoolOp .Or (b :: es) pos) ρ μ1 R)) : DE X w (.BoolOp .Or (a :: b :: es) pos) ρ μ R := fun σ B H S I Q k =>
  tE_of (pe_or pe_self pe_self) (h σ B H S I _ fun v r B1 H1 μ1 I1 e1 q1 h1 => by
    obtain ⟨t, rfl, h1⟩ := h1
    cases q1
    refine ⟨t, rfl, ?_⟩
    cases t with
    | true => rw [if_pos rfl]; exact k (.bl true) (.dat (.bl true)) B1 H1 μ1 I1 e1 (Dq.bl true) (h1.1 rfl)
    | false => rw [if_neg Bool.false_ne_true]; exact h1.2 rfl σ B1 H1 (S.mono e1) I1 Q (k.mono e1))
theorem de_not (h : DE X w e ρ μ fun r μ1 => BoolR r fun t => R (.dat (.bl (!t))) μ1) : DE X w (.UnaryOp .Not e pos) ρ μ R := fun σ B H S I Q k =>
  tE_of (pe_not pe_self) (h σ B H S I _ fun v r B1 H1 μ1 I1 e1 q1 h1 => by
    obtain ⟨t, rfl, h1⟩ := h1
    cases q1
    exact ⟨t, rfl, k (.bl (!t)) (.dat (.bl (!t))) B1 H1 μ1 I1 e1 (Dq.bl _) h1⟩)
theorem de_ifx (h : DT X w c ρ μ fun t μ1 => (t = true → DE X w a ρ μ1 R) ∧ (t = false → DE X w b ρ μ1 R)) : DE X w (.IfExp c a b pos) ρ μ R := fun σ B H S I Q k =>
  tE_of (pe_ifExp pt_self pe_self pe_self) (h σ B H S I _ fun t B1 H1 μ1 I1 e1 h1 => by
    cases t with
    | true => rw [if_pos rfl]; exact h1.1 rfl σ B1 H1 (S.mono e1) I1 Q (k.mono e1)
    | false => rw [if_neg Bool.false_ne_true]; exact h1.2 rfl σ B1 H1 (S.mono e1) I1 Q (k.mono e1))

/-! ### calls of built-ins -/
theorem de_callB {id : String} (ha : DA X w (e :: es) ρ μ fun rs μ1 => CaD X w (.builtin id) rs μ1 R) (hm : X.mg x = none) (hv : bootBuiltins x = some (.builtin id)) (hg : Gl X x := by rfl) (hn : x ≠ "__name__" := by decide) (hdb : (x == ("__debug__" : Str)) = false := by decide)
    (he : starEach (e :: es) X.env = (false, eval e X.env) :: starEach es X.env := by rfl) (hpl : (backTo pos (starEach es X.env)).any (·.1) = false := by rfl) : DE X w (.Call (.Name x p) (e :: es) [] pos) ρ μ R := fun σ B H S I Q k =>
  tE_of (pe_callB cr_self hg hm hv pa_self hn hdb he hpl) (ha σ B H S I _ fun vs rs B1 H1 μ1 I1 e1 q1 h1 => h1 B1 H1 vs I1 q1 Q (k.mono e1))
theorem de_callT {T : String} (ha : DA X w (e :: es) ρ μ fun rs μ1 => CaD X w (.type T) rs μ1 R) (hm : X.mg x = none) (hv : bootBuiltins x = some (.type T)) (hg : Gl X x := by rfl) (hn : x ≠ "__name__" := by decide) (hdb : (x == ("__debug__" : Str)) = false := by decide)
    (he : starEach (e :: es) X.env = (false, eval e X.env) :: starEach es X.env := by rfl) (hpl : (backTo pos (starEach es X.env)).any (·.1) = false := by rfl) : DE X w (.Call (.Name x p) (e :: es) [] pos) ρ μ R := fun σ B H S I Q k =>
  tE_of (pe_callTy cr_self hg hm hv pa_self hn hdb he hpl) (ha σ B H S I _ fun vs rs B1 H1 μ1 I1 e1 q1 h1 => h1 B1 H1 vs I1 q1 Q (k.mono e1))
/-- a built-in class as a value: isinstance(x, int) -/
theorem de_bm {T id : String} {name : Str} {o : Expr} {apos cpos : Pos} (ho : DE X w o ρ μ fun r μ1 => TyD X.K T r μ1 ∧ DA X w (e :: es) ρ μ1 fun rs μ2 => MtD X w id r rs μ2 R) (pa : PlainAttrs T) (slot : Slot T name id) (hty : typeOf (.builtin id) = pure (.type "method_descriptor"))
    (hbase : attributeBase o name X.env (eval o X.env) = eval o X.env := by rfl)
    (hfew : ((backTo cpos (starEach (e :: es) X.env)).all (fun x => !x.1) && (backToKw cpos (keywordEach [] X.env)).all (fun x => x.1.isSome)
      && decide ((e :: es).length + ([] : List Keyword).length + (if ([] : List Keyword).isEmpty then 0 else 1) < 30)) = true := by rfl)
    (hline : (apos.endLine == cpos.line) = true := by rfl) (hs : starEach (e :: es) X.env = (false, eval e X.env) :: starEach es X.env := by rfl) (hplain : (backTo cpos (starEach es X.env)).any (·.1) = false := by rfl) :
    DE X w (.Call (.Attribute o name apos) (e :: es) [] cpos) ρ μ R := fun σ B H S I Q k =>
  tE_of (pe_bm pa slot hty mr_self pe_self pa_self hbase hfew hline hs hplain) (ho σ B H S I _ fun v r B1 H1 μ1 I1 e1 q1 h1 => ⟨h1.1 w B1 H1 v I1 q1, h1.2 σ B1 H1 (S.mono e1) I1 _ fun vs rs B2 H2 μ2 I2 e2 q2 h2 => h2 B2 H2 v vs I2 (q1.mono e2) q2 Q (k.mono (e1.trans e2))⟩)
end
end Dat

set_option Elab.async false
set_option linter.all false
set_option maxRecDepth 100000
set_option maxHeartbeats 4000000
/-! Dat2: statements, loops, comprehensions, the program's own defs. -/
namespace Dat
open PySem PySem.Spec PyProof.Rows L2

/-! ### statements -/
structure Po where
  nx : List SV → Mus → Prop
  rt : SV → Mus → Prop
  bk : List SV → Mus → Prop := fun _ _ => False
  ct : List SV → Mus → Prop := fun _ _ => False
structure EndsOk (w : Wd) (B0 : Hp) (P : Po) (D : Ends) : Prop where
  nx : ∀ σ B H ρ μ, Sto B σ ρ → SInv w B H μ → Ex B0 B → P.nx ρ μ → D.nx σ H
  rt : ∀ v r B H μ, SInv w B H μ → Ex B0 B → Svq B v r → P.rt r μ → D.rt v H
  bk : ∀ σ B H ρ μ, Sto B σ ρ → SInv w B H μ → Ex B0 B → P.bk ρ μ → D.bk σ H
  ct : ∀ σ B H ρ μ, Sto B σ ρ → SInv w B H μ → Ex B0 B → P.ct ρ μ → D.ct σ H
theorem EndsOk.mono {w : Wd} {B0 B1 : Hp} {P : Po} {D : Ends} (E : EndsOk w B0 P D) (e : Ex B0 B1) : EndsOk w B1 P D :=
  ⟨fun σ B H ρ μ S I x => E.nx σ B H ρ μ S I (e.trans x), fun v r B H μ I x => E.rt v r B H μ I (e.trans x), fun σ B H ρ μ S I x => E.bk σ B H ρ μ S I (e.trans x), fun σ B H ρ μ S I x => E.ct σ B H ρ μ S I (e.trans x)⟩
def DS (X : Cx) (w : Wd) (st : Stmt) (ρ : List SV) (μ : Mus) (P : Po) : Prop :=
  ∀ σ B H, Sto B σ ρ → SInv w B H μ → ∀ D, EndsOk w B P D → tS X st D σ H
def DSs (X : Cx) (w : Wd) (sts : List Stmt) (ρ : List SV) (μ : Mus) (P : Po) : Prop :=
  ∀ σ B H, Sto B σ ρ → SInv w B H μ → ∀ D, EndsOk w B P D → tB_ X sts D σ H
/-- what a loop walks -/
structure WkD (J : It) (B : Hp) (items : List Dt) : Prop where
  goes : ∀ i H, i < items.length → Ex B H → J.go i H
  stops : ∀ H, Ex B H → J.stop items.length H
  yields : ∀ i H x H', i < items.length → Ex B H → J.yld i H x H' → ∃ d, items[i]? = some d ∧ ((H' = H ∧ Dq B x d) ∨ ∃ T xs ds, x = .ref T ∧ H T = none ∧ H' = upd H T (.tup xs) ∧ DqA B xs ds ∧ d = .tup ds)
def DI (X : Cx) (w : Wd) (tg e : Expr) (ρ : List SV) (μ : Mus) (R : List Dt → Mus → Prop) : Prop :=
  ∀ σ B H, Sto B σ ρ → SInv w B H μ → ∀ RR : It → Hp → Prop, (∀ J items B' H' μ', SInv w B' H' μ' → Ex B B' → WkD J B' items → R items μ' → RR J H') → tI X tg e σ H RR

section
variable {X : Cx} {w : Wd} {ρ : List SV} {μ : Mus} {P : Po} {e c tg : Expr} {st : Stmt} {sts a b : List Stmt} {pos p pos' : Pos} {x : Str}
theorem dss_nil (h : P.nx ρ μ) : DSs X w [] ρ μ P := fun σ B H S I D E => tB_of pss_nil (E.nx σ B H ρ μ S I (Ex.refl B) h)
theorem dss_cons (h : DS X w st ρ μ { P with nx := fun ρ' μ' => DSs X w sts ρ' μ' P }) : DSs X w (st :: sts) ρ μ P := fun σ B H S I D E =>
  tB_of (pss_cons ps_self pss_self) (h σ B H S I _ ⟨fun σ1 B1 H1 ρ1 μ1 S1 I1 e1 h1 => h1 σ1 B1 H1 S1 I1 D (E.mono e1), E.rt, E.bk, E.ct⟩)
theorem dss_one (h : DS X w st ρ μ P) : DSs X w [st] ρ μ P := fun σ B H S I D E => tB_of (pss_one ps_self) (h σ B H S I D E)
theorem ds_pass (h : P.nx ρ μ) : DS X w (.Pass pos) ρ μ P := fun σ B H S I D E => tS_of ps_pass (E.nx σ B H ρ μ S I (Ex.refl B) h)
theorem ds_break (h : P.bk ρ μ) : DS X w (.Break pos) ρ μ P := fun σ B H S I D E => tS_of ps_break (E.bk σ B H ρ μ S I (Ex.refl B) h)
theorem ds_continue (h : P.ct ρ μ) : DS X w (.Continue pos) ρ μ P := fun σ B H S I D E => tS_of ps_continue (E.ct σ B H ρ μ S I (Ex.refl B) h)
theorem ds_doc {z : Str} {j} (h : P.nx ρ μ) : DS X w (.Expr (.Constant (.str z) j pos) pos') ρ μ P := fun σ B H S I D E => tS_of ps_doc (E.nx σ B H ρ μ S I (Ex.refl B) h)
theorem ds_expr (h : DE X w e ρ μ fun _ μ' => P.nx ρ μ') (hs : swapsWith e none pos.line X.env = pure false := by rfl) : DS X w (.Expr e pos) ρ μ P := fun σ B H S I D E =>
  tS_of (ps_expr pe_self hs) (h σ B H S I _ fun v r B1 H1 μ1 I1 e1 q1 h1 => E.nx σ B1 H1 ρ μ1 (S.mono e1) I1 e1 h1)
theorem ds_ret (h : DE X w e ρ μ fun r μ' => P.rt r μ') : DS X w (.Return (some e) pos) ρ μ P := fun σ B H S I D E =>
  tS_of (ps_ret pe_self) (h σ B H S I _ fun v r B1 H1 μ1 I1 e1 q1 h1 => E.rt v r B1 H1 μ1 I1 e1 q1 h1)
/-- return of an own list, that becomes data -/
theorem ds_retL (h : DE X w e ρ μ fun r μ' => ∃ q ds ν, r = .at q ∧ μ' q = some (.lst ds) ∧ w.H q = none ∧ ν.Sub μ' ∧ ν q = none ∧ P.rt (.dat (.lst ds)) ν) : DS X w (.Return (some e) pos) ρ μ P := fun σ B H S I D E =>
  tS_of (ps_ret pe_self) (h σ B H S I _ fun v r B1 H1 μ1 I1 e1 q1 h1 => by
    obtain ⟨q, ds, ν, rfl, hm, hw, hs, hn, h1⟩ := h1
    obtain ⟨B2, I2, e2, q2⟩ := I1.freeze hm hw hs hn
    cases (show v = V.ref q from q1)
    exact E.rt _ (.dat (.lst ds)) B2 H1 ν I2 (e1.trans e2) q2 h1)
theorem ds_retN (h : P.rt (.dat .non) μ) : DS X w (.Return none pos) ρ μ P := fun σ B H S I D E =>
  tS_of ps_retN (E.rt .non (.dat .non) B H μ I (Ex.refl B) Dq.non h)
theorem ds_if (h : DT X w c ρ μ fun t μ1 => (t = true → DSs X w a ρ μ1 P) ∧ (t = false → DSs X w b ρ μ1 P)) : DS X w (.If c a b pos) ρ μ P := fun σ B H S I D E =>
  tS_of (ps_if pt_self pss_self pss_self) (h σ B H S I _ fun t B1 H1 μ1 I1 e1 h1 => by
    cases t with
    | true => rw [if_pos rfl]; exact h1.1 rfl σ B1 H1 (S.mono e1) I1 D (E.mono e1)
    | false => rw [if_neg Bool.false_ne_true]; exact h1.2 rfl σ B1 H1 (S.mono e1) I1 D (E.mono e1))
theorem ds_set (i : Nat) (hN : X.N.Nodup) (h : DE X w e ρ μ fun r μ' => P.nx (ρ.set i r) μ') (hi : X.N[i]? = some x := by rfl) (hx : Loc X.env.scope x := by first | exact Or.inl rfl | exact Or.inr rfl) (hs : swapsWith e (some (.Name x pos')) pos.line X.env = pure false := by rfl)
    (hf : X.fn x = true ∨ X.env.scope.names.lookup x = some .local := by first | exact .inl rfl | exact .inr rfl) : DS X w (.Assign [.Name x pos'] e pos) ρ μ P := fun σ B H S I D E =>
  tS_of (ps_set hN hi hx pe_self hs hf) (h σ B H S I _ fun v r B1 H1 μ1 I1 e1 q1 h1 => E.nx _ B1 H1 _ μ1 ((S.mono e1).set i q1) I1 e1 h1)
theorem ds_asg (h : DE X w e ρ μ fun r μ' => DG X w tg r ρ μ' P.nx) (hs : swapsWithSole [tg] e pos.line X.env = pure false := by rfl) (hw : swappedStores [tg] e X.env = pure none := by rfl)
    (h1 : (assignEach [tg] X.env).map (·.2) = [assign tg X.env] := by rfl) : DS X w (.Assign [tg] e pos) ρ μ P := fun σ B H S I D E =>
  tS_of (ps_asg pe_self pg_self hs hw h1) (h σ B H S I _ fun v r B1 H1 μ1 I1 e1 q1 g => g σ B1 H1 v (S.mono e1) I1 q1 _ fun σ2 B2 H2 ρ2 μ2 S2 I2 e2 k2 => E.nx σ2 B2 H2 ρ2 μ2 S2 I2 (e1.trans e2) k2)
theorem ds_par (i j : Nat) {y : Str} {e1 e2 : Expr} {px py pt : Pos} {kt k2 pt2} (hc : X.calm = true) (hN : X.N.Nodup) (h : DA X w [e1, e2] ρ μ fun rs μ' => ∃ r s, rs = [r, s] ∧ P.nx ((ρ.set i r).set j s) μ') (hi : X.N[i]? = some x := by rfl) (hj : X.N[j]? = some y := by rfl) (hij : i ≠ j := by decide)
    (hx : X.env.scope.names.lookup x = some .local := by rfl) (hy : X.env.scope.names.lookup y = some .local := by rfl)
    (hw : swappedStores [.Tuple [.Name x px, .Name y py] kt pt] (.Tuple [e1, e2] k2 pt2) X.env = pure (some [x, y]) := by rfl)
    (hs : swapsWithSole [.Tuple [.Name x px, .Name y py] kt pt] (.Tuple [e1, e2] k2 pt2) pos.line X.env = pure false := by rfl) :
    DS X w (.Assign [.Tuple [.Name x px, .Name y py] kt pt] (.Tuple [e1, e2] k2 pt2) pos) ρ μ P := fun σ B H S I D E =>
  tS_of (ps_par hc hN hi hj hij hx hy pa_self hw hs) (h σ B H S I _ fun vs rs B1 H1 μ1 I1 ex q1 h1 => by
    obtain ⟨r, s, rfl, h1⟩ := h1
    cases q1 with
    | cons p q => cases q with
      | cons p' q' => cases q'; exact ⟨_, _, rfl, E.nx _ B1 H1 _ μ1 (((S.mono ex).set i p).set j p') I1 ex h1⟩)
theorem ds_while {body : List Stmt} (J : Nat → List SV → Mus → Prop) (n : Nat) (h0 : J n ρ μ) (hp : PassesOwn (model X.prog X.w) X.A X.env X.xe)
    (h : ∀ n ρ1 μ1, J n ρ1 μ1 → DT X w c ρ1 μ1 fun t μ2 => (t = true → DSs X w body ρ1 μ2 { nx := fun ρ' μ' => ∃ m, m < n ∧ J m ρ' μ', ct := fun ρ' μ' => ∃ m, m < n ∧ J m ρ' μ', bk := P.nx, rt := P.rt }) ∧ (t = false → P.nx ρ1 μ2)) :
    DS X w (.While c body [] pos) ρ μ P := fun σ B H S I D E => by
  refine tS_of (ps_while hp pt_self pss_self) ⟨fun m σ H => ∃ B1 ρ μ, Sto B1 σ ρ ∧ SInv w B1 H μ ∧ Ex B B1 ∧ J m ρ μ, ⟨n, B, ρ, μ, S, I, Ex.refl B, h0⟩, ?_⟩
  rintro m σ1 H1 ⟨B1, ρ1, μ1, S1, I1, g1, J1⟩
  refine h m ρ1 μ1 J1 σ1 B1 H1 S1 I1 _ fun t B2 H2 μ2 I2 e2 h2 => ?_
  cases t with
  | true =>
    rw [if_pos rfl]
    exact ⟨fun σ' H' => ∃ m', m' < m ∧ ∃ B1 ρ μ, Sto B1 σ' ρ ∧ SInv w B1 H' μ ∧ Ex B B1 ∧ J m' ρ μ, fun _ _ z => z, h2.1 rfl σ1 B2 H2 (S1.mono e2) I2 _
      ⟨fun σ3 B3 H3 ρ3 μ3 S3 I3 g3 ⟨m', hl, j⟩ => ⟨m', hl, B3, ρ3, μ3, S3, I3, g1.trans (e2.trans g3), j⟩, fun v r B3 H3 μ3 I3 g3 => E.rt v r B3 H3 μ3 I3 (g1.trans (e2.trans g3)), fun σ3 B3 H3 ρ3 μ3 S3 I3 g3 k => E.nx σ3 B3 H3 ρ3 μ3 S3 I3 (g1.trans (e2.trans g3)) k,
        fun σ3 B3 H3 ρ3 μ3 S3 I3 g3 ⟨m', hl, j⟩ => ⟨m', hl, B3, ρ3, μ3, S3, I3, g1.trans (e2.trans g3), j⟩⟩⟩
  | false =>
    rw [if_neg Bool.false_ne_true]
    exact E.nx σ1 B2 H2 ρ1 μ2 (S1.mono e2) I2 (g1.trans e2) (h2.2 rfl)

/-! ### what is walked -/
theorem di_lst {R : List Dt → Mus → Prop} (h : DE X w e ρ μ fun r μ' => ∃ ds, r = .dat (.lst ds) ∧ R ds μ') : DI X w tg e ρ μ R := fun σ B H S I RR k =>
  tI_of (pi_list pe_self) (h σ B H S I _ fun v r B1 H1 μ1 I1 e1 q1 h1 => by
    obtain ⟨ds, rfl, h1⟩ := h1
    cases q1 with
    | @lst a xs _ ha hx =>
      have sq : ∀ H, Ex B1 H → SqL X.K H a xs := fun H e => .inl (.inl (e _ _ ha))
      refine ⟨a, rfl, ⟨xs, sq H1 I1.bh⟩, k (Itl X.K a) ds B1 H1 μ1 I1 e1 ⟨fun i H hi e => ?_, fun H e => ?_, fun i H x H' hi e y => ?_⟩ h1⟩
      · exact walk_list.goes i H (by rw [hx.length]; exact hi) (sq H e)
      · have z := (walk_list (K := X.K) (a := a) (xs := xs)).stops H (sq H e)
        rw [hx.length] at z; exact z
      · obtain ⟨e1, e2⟩ := walk_list.yields i H x H' (by rw [hx.length]; exact hi) (sq H e) y
        obtain ⟨d, h1, h2⟩ := hx.getV e2
        exact ⟨d, h1, .inl ⟨e1, h2⟩⟩)
theorem di_tup {R : List Dt → Mus → Prop} (h : DE X w e ρ μ fun r μ' => ∃ ds, r = .dat (.tup ds) ∧ R ds μ') : DI X w tg e ρ μ R := fun σ B H S I RR k =>
  tI_of (pi_tup pe_self) (h σ B H S I _ fun v r B1 H1 μ1 I1 e1 q1 h1 => by
    obtain ⟨ds, rfl, h1⟩ := h1
    cases q1 with
    | @tup a xs _ ha hx =>
      have sq : ∀ H, Ex B1 H → SqT X.K H a xs := fun H e => .inl (.inl (e _ _ ha))
      refine ⟨a, rfl, ⟨xs, sq H1 I1.bh⟩, k (Itt X.K a) ds B1 H1 μ1 I1 e1 ⟨fun i H hi e => ?_, fun H e => ?_, fun i H x H' hi e y => ?_⟩ h1⟩
      · exact walk_tup.goes i H (by rw [hx.length]; exact hi) (sq H e)
      · have z := (walk_tup (K := X.K) (a := a) (xs := xs)).stops H (sq H e)
        rw [hx.length] at z; exact z
      · obtain ⟨e1, e2⟩ := walk_tup.yields i H x H' (by rw [hx.length]; exact hi) (sq H e) y
        obtain ⟨d, h1, h2⟩ := hx.getV e2
        exact ⟨d, h1, .inl ⟨e1, h2⟩⟩)
def signs (z : Str) : List Dt := z.cps.toList.map fun c => .str ⟨#[c]⟩
theorem di_str {R : List Dt → Mus → Prop} (h : DE X w e ρ μ fun r μ' => ∃ z, r = .dat (.str z) ∧ R (signs z) μ') : DI X w tg e ρ μ R := fun σ B H S I RR k =>
  tI_of (pi_str pe_self) (h σ B H S I _ fun v r B1 H1 μ1 I1 e1 q1 h1 => by
    obtain ⟨z, rfl, h1⟩ := h1
    cases q1
    have hz : (signs z).length = z.cps.size := by simp [signs]
    refine ⟨z, rfl, k (Its z) (signs z) B1 H1 μ1 I1 e1 ⟨fun i H hi e => ?_, fun H e => ?_, fun i H x H' hi e y => ?_⟩ h1⟩
    · show i < z.cps.size; rw [← hz]; exact hi
    · show z.cps.size ≤ (signs z).length; rw [hz]; exact Nat.le_refl _
    · obtain ⟨e1, c, e2, e3⟩ := y
      subst e3
      exact ⟨.str ⟨#[c]⟩, by unfold signs; rw [List.getElem?_map, Array.getElem?_toList, e2]; rfl, .inl ⟨e1, .str _⟩⟩)
def upto (lo : Int) (n : Nat) : List Dt := (List.range n).map fun (k : Nat) => .int (lo + k)
theorem di_range1 {R : List Dt → Mus → Prop} (h : DA X w [e] ρ μ fun rs μ' => ∃ n : Int, rs = [.dat (.int n)] ∧ -(2 ^ 62) ≤ n ∧ n < 2 ^ 62 ∧ R (upto 0 n.toNat) μ') (hm : X.mg "range" = none) (hg : Gl X "range" := by rfl) (hs : starEach [e] X.env = [(false, eval e X.env)] := by rfl) :
    DI X w tg (.Call (.Name "range" p) [e] [] pos) ρ μ R := fun σ B H S I RR k =>
  tI_of (pi_range1 hg hm pa_self hs) (h σ B H S I _ fun vs rs B1 H1 μ1 I1 e1 q1 h1 => by
    obtain ⟨n, rfl, h2, h3, h1⟩ := h1
    have ev := DqA.ints (ns := [n]) (undat_q (ds := [.int n]) q1 rfl)
    subst ev
    have hz : (upto 0 n.toNat).length = n.toNat := by simp [upto]
    refine ⟨n, rfl, h2, h3, k (Itr 0 n.toNat) (upto 0 n.toNat) B1 H1 μ1 I1 e1 ⟨fun i H hi e => ?_, fun H e => ?_, fun i H x H' hi e y => ?_⟩ h1⟩
    · show i < n.toNat; rw [← hz]; exact hi
    · show n.toNat ≤ (upto 0 n.toNat).length; rw [hz]; exact Nat.le_refl _
    · obtain ⟨e1, e2⟩ := y
      subst e2
      exact ⟨.int (0 + (i : Nat)), by unfold upto; rw [List.getElem?_map, List.getElem?_range (by rw [← hz]; exact hi)]; rfl, .inl ⟨e1, .int _⟩⟩)

theorem ds_for {body : List Stmt} (h : DI X w tg e ρ μ fun items μ1 => ∃ J : Nat → List SV → Mus → Prop, J 0 ρ μ1 ∧
      (∀ n d ρ' μ', items[n]? = some d → J n ρ' μ' → DG X w tg (.dat d) ρ' μ' fun ρ2 μ2 => DSs X w body ρ2 μ2 { nx := J (n + 1), ct := J (n + 1), bk := P.nx, rt := P.rt }) ∧ ∀ ρ' μ', J items.length ρ' μ' → P.nx ρ' μ')
    (hp : PassesOwn (model X.prog X.w) X.A X.env X.xe) (hc : X.calm = true) (hf : ∀ z, foldedSetIterable e X.env z = pure z := by intro _; rfl) : DS X w (.For tg e body [] pos) ρ μ P := fun σ B H S I D E => by
  refine tS_of (ps_for hp hc pi_self pg_self pss_self hf) (h σ B H S I _ fun J items B1 H1 μ1 I1 e1 W h1 => ?_)
  obtain ⟨V, v0, turn, fin⟩ := h1
  let Y : Nat → Hp → L2.V → Hp → Prop := fun i H x H' => ∃ d, items[i]? = some d ∧ ((H' = H ∧ Dq B1 x d) ∨ ∃ T xs ds, x = .ref T ∧ H T = none ∧ H' = upd H T (.tup xs) ∧ DqA B1 xs ds ∧ d = .tup ds)
  have wk : Walk J items.length (fun H => Ex B1 H) Y := ⟨fun i H hi g => W.goes i H hi g, W.stops, W.yields⟩
  refine for_it wk (fun i σ H => ∃ B ρ μ, Sto B σ ρ ∧ SInv w B H μ ∧ Ex B1 B ∧ V i ρ μ) ⟨B1, ρ, μ1, S.mono e1, I1, Ex.refl _, v0⟩ (fun i σ H _ ⟨B, ρ, μ, _, I, g, _⟩ => g.trans I.bh) ?_ ?_
  · rintro i x σ2 H2 H3 hi ⟨B2, ρ2, μ2, S2, I2, g2, v2⟩ ⟨d, hd, hy⟩
    have fin2 : ∀ B3, Sto B3 σ2 ρ2 → SInv w B3 H3 μ2 → Ex B1 B3 → Dq B3 x d → tG X tg x σ2 H3 fun σ4 H4 => tB_ X body { D with nx := fun σ H => ∃ B ρ μ, Sto B σ ρ ∧ SInv w B H μ ∧ Ex B1 B ∧ V (i + 1) ρ μ, ct := fun σ H => ∃ B ρ μ, Sto B σ ρ ∧ SInv w B H μ ∧ Ex B1 B ∧ V (i + 1) ρ μ, bk := D.nx } σ4 H4 := fun B3 S3 I3 g3 q3 => by
      refine turn i d ρ2 μ2 hd v2 σ2 B3 H3 x S3 I3 q3 _ fun σ4 B4 H4 ρ4 μ4 S4 I4 e4 h4 => ?_
      exact h4 σ4 B4 H4 S4 I4 _ ⟨fun σ5 B5 H5 ρ5 μ5 S5 I5 e5 v5 => ⟨B5, ρ5, μ5, S5, I5, g3.trans (e4.trans e5), v5⟩, fun v r B5 H5 μ5 I5 e5 => E.rt v r B5 H5 μ5 I5 (e1.trans (g3.trans (e4.trans e5))),
        fun σ5 B5 H5 ρ5 μ5 S5 I5 e5 v5 => E.nx σ5 B5 H5 ρ5 μ5 S5 I5 (e1.trans (g3.trans (e4.trans e5))) v5, fun σ5 B5 H5 ρ5 μ5 S5 I5 e5 v5 => ⟨B5, ρ5, μ5, S5, I5, g3.trans (e4.trans e5), v5⟩⟩
    rcases hy with ⟨rfl, q⟩ | ⟨T, xs, ds, rfl, hT, rfl, q, rfl⟩
    · exact fin2 B2 S2 I2 g2 (q.mono g2)
    · have hb := (I2.free hT).1
      exact fin2 (upd B2 T (.tup xs)) (S2.mono (Ex.new hb)) (I2.new hT _) (g2.trans (Ex.new hb)) (.tup upd_same ((q.mono g2).mono (Ex.new hb)))
  · rintro σ2 H2 ⟨B2, ρ2, μ2, S2, I2, g2, v2⟩
    exact E.nx σ2 B2 H2 ρ2 μ2 S2 I2 (e1.trans g2) (fin ρ2 μ2 v2)
end
end Dat

set_option Elab.async false
set_option linter.all false
set_option maxRecDepth 100000
set_option maxHeartbeats 4000000
/-! Dat3: comprehensions; targets; the program's own defs. -/
namespace Dat
open PySem PySem.Spec PyProof.Rows L2

/-! ### an own object that nobody tells -/
section
variable {w : Wd} {B H : Hp} {μ : Mus} {p : Addr}
theorem SInv.own (I : SInv w B H μ) (hb : B p = none) (hw : w.H p = none) (hm : μ p = none) (o : HO) : SInv w B (upd H p o) μ := by
  refine ⟨I.b0, I.bh.mut hb, fun q u hM hq => ?_, fun q hq => ?_, I.out, fun q u hq => ?_⟩
  · rw [upd_ne (fun z => by rw [z, hw] at hq; cases hq)]; exact I.keep q u hM hq
  · by_cases e : q = p
    · rw [e, upd_same]; exact nofun
    · rw [upd_ne e]; exact I.there q hq
  · have e : q ≠ p := fun z => by rw [z, hm] at hq; cases hq
    obtain ⟨h1, h2, h3⟩ := I.mus q u hq
    exact ⟨h1, h2.mono (Ex.refl B) (upd_ne e), h3⟩
theorem SInv.told (I : SInv w B H μ) (hb : B p = none) (hw : w.H p = none) (hm : μ p = none) {o : HO} (ho : H p = some o) : SInv w (upd B p o) H μ := by
  refine ⟨I.b0.mut (I.b0.none hb), fun q u hq => ?_, I.keep, I.there, fun q hq hB => ?_, fun q u hq => ?_⟩
  · by_cases e : q = p
    · rw [e, upd_same] at hq; cases hq; rw [e]; exact ho
    · rw [upd_ne e] at hq; exact I.bh q u hq
  · rw [upd_ne (fun e => hq (by rw [e]; exact hw))]; exact I.out q hq hB
  · have e : q ≠ p := fun z => by rw [z, hm] at hq; cases hq
    obtain ⟨h1, h2, h3⟩ := I.mus q u hq
    exact ⟨by rw [upd_ne e]; exact h1, h2.mono (Ex.new hb) rfl, h3⟩
end

/-! ### comprehensions -/
/-- the context of a comprehension's block -/
abbrev Bk := Shared × Hp × Addr × List (Str × Addr) × List Addr
abbrev BX (X : Cx) (scope : Scope) (k : Bk) : Cx := X.blk k.1 k.2.1 scope (compEnvC scope k.2.2.2.1 k.2.2.1 X.env) k.2.2.2.2
def tQ (X : Cx) (ifs : List Expr) : TT := fun σ H Q => ∀ pins s, Inv X pins σ H s →
  wpAny (model X.prog X.w) X.A (forIn ifs true fun c r => if r = true then do let ok ← isTrue c X.env (eval c X.env); pure (ForInStep.yield ok) else pure (ForInStep.yield r)) (TP X pins σ Q) X.xe s
theorem pts_self {X : Cx} {ifs : List Expr} : PTs X ifs (tQ X ifs) := ⟨fun pins s _ _ _ I h => h pins s I⟩
theorem tQ_of {X : Cx} {ifs : List Expr} {t : TT} {σ : L2.St} {H : Hp} {Q : Bool → Hp → Prop} (h : PTs X ifs t) (q : t σ H Q) : tQ X ifs σ H Q := fun pins s I => h.run pins s σ H Q I q
def DQ (X : Cx) (w : Wd) (ifs : List Expr) (ρ : List SV) (μ : Mus) (R : Bool → Mus → Prop) : Prop :=
  ∀ σ B H, Sto B σ ρ → SInv w B H μ → ∀ Q : Bool → Hp → Prop, (∀ b B' H' μ', SInv w B' H' μ' → Ex B B' → R b μ' → Q b H') → tQ X ifs σ H Q
theorem dq_nil {X : Cx} {w : Wd} {ρ : List SV} {μ : Mus} {R : Bool → Mus → Prop} (h : R true μ) : DQ X w [] ρ μ R := fun σ B H S I Q k => tQ_of pts_nil (k true B H μ I (Ex.refl B) h)
theorem dq_one {X : Cx} {w : Wd} {ρ : List SV} {μ : Mus} {R : Bool → Mus → Prop} {c : Expr} (h : DT X w c ρ μ R) : DQ X w [c] ρ μ R := fun σ B H S I Q k => tQ_of (pts_one pt_self) (h σ B H S I Q k)

section
variable {X : Cx} {w : Wd} {ρ : List SV} {μ : Mus} {elt tg iter : Expr} {ifs : List Expr} {scope : Scope} {pos px : Pos} {x y : Str}
/-- what an element's turn is to do -/
def LcTurn (X : Cx) (scope : Scope) (elt : Expr) (ifs : List Expr) (ρ : List SV) (j : Nat) (J : Nat → List Dt → Mus → Prop) (n : Nat) (acc : List Dt) (d : Dt) (μ : Mus) : Prop :=
  ∀ w' k, DQ (BX X scope k) w' ifs (ρ.set j (.dat d)) μ fun b μ3 => (b = true → ∀ kc, DE (BX X scope kc) w' elt (ρ.set j (.dat d)) μ3 fun r μ4 => ∃ d', r = .dat d' ∧ J (n + 1) (acc ++ [d']) μ4) ∧ (b = false → J (n + 1) acc μ3)
def LcAsk (X : Cx) (scope : Scope) (elt : Expr) (ifs : List Expr) (ρ : List SV) (j : Nat) (R : SV → Mus → Prop) (items : List Dt) (μ1 : Mus) : Prop :=
  items.length ≤ 100000 ∧ ∃ J : Nat → List Dt → Mus → Prop, J 0 [] μ1 ∧ (∀ n acc d μ2, items[n]? = some d → acc.length ≤ n → J n acc μ2 → LcTurn X scope elt ifs ρ j J n acc d μ2) ∧
    ∀ acc μ', J items.length acc μ' → acc.length ≤ items.length → R (.dat (.lst acc)) μ'
def gE (X : Cx) (scope : Scope) (elt : Expr) : TE := fun σ H Q => ∀ k : Bk, tE (BX X scope k) elt σ H Q
def gQ (X : Cx) (scope : Scope) (ifs : List Expr) : TT := fun σ H Q => ∀ k : Bk, tQ (BX X scope k) ifs σ H Q
theorem lc_data {R : SV → Mus → Prop} {j : Nat} {σ : L2.St} {B H : Hp} {Q : VK} (h : DI X w (.Name x px) iter ρ μ (LcAsk X scope elt ifs ρ j R)) (S : Sto B σ ρ) (I : SInv w B H μ) (k : Kt w B R Q) :
    tLc (tI X (.Name x px) iter) (gName j) (gQ X scope ifs) (gE X scope elt) [j] σ H Q := by
  refine h σ B H S I _ fun J items B1 H1 μ1 I1 e1 W h1 D hD => ?_
  obtain ⟨hlen, V, v0, turn, fin⟩ := h1
  obtain ⟨bD, mD, wD⟩ := I1.free hD
  let Y : Nat → Hp → L2.V → Hp → Prop := fun i H x H' => ∃ d, items[i]? = some d ∧ ((H' = H ∧ Dq B1 x d) ∨ ∃ T xs ds, x = .ref T ∧ H T = none ∧ H' = upd H T (.tup xs) ∧ DqA B1 xs ds ∧ d = .tup ds)
  have wk : Walk J items.length (fun H => Ex B1 H) Y := ⟨fun i H hi g => W.goes i H hi g, W.stops, W.yields⟩
  let Pv : Nat → Hp → Prop := fun i H' => ∃ B' μ' acc xs, SInv w B' H' μ' ∧ Ex B1 B' ∧ μ' D = none ∧ B' D = none ∧ H' D = some (.lst xs) ∧ DqA B' xs acc ∧ acc.length ≤ i ∧ V i acc μ'
  refine lc_it wk Pv ⟨B1, μ1, [], [], I1.own bD wD mD _, Ex.refl _, mD, bD, upd_same, .nil, Nat.le_refl _, v0⟩ (fun i H' _ ⟨B', _, _, _, I', g, _⟩ => g.trans I'.bh) ?_ ?_
  · rintro i v H2 H3 hi ⟨B2, μ2, acc, xs, I2, g2, m2, b2, hx, qx, hl, v2⟩ ⟨d, hd, hy⟩
    refine ⟨by simp [wipe, List.set_set], ?_⟩
    have core : ∀ B3, SInv w B3 H3 μ2 → Ex B2 B3 → B3 D = none → H3 D = some (.lst xs) → Dq B3 v d →
        gQ X scope ifs ((wipe σ [j]).set j (some v)) H3 fun b H4 => if b = true then gE X scope elt ((wipe σ [j]).set j (some v)) H4 fun y H5 => ∃ acc, H5 D = some (.lst acc) ∧ acc.length < sizeLine ∧ Pv (i + 1) (upd H5 D (.lst (acc ++ [y]))) else Pv (i + 1) H4 := by
      intro B3 I3 e3 b3 h3 q3 kb
      have J3 : SInv ⟨B3, H3, fun p => μ2 p ≠ none⟩ B3 H3 μ2 := SInv.start I3.bh fun p o z => ⟨(I3.mus p o z).1, (I3.mus p o z).2.1⟩
      have S3 : Sto B3 ((wipe σ [j]).set j (some v)) (ρ.set j (.dat d)) := by
        have s1 : Sto B3 σ ρ := S.mono (e1.trans (g2.trans e3))
        have s2 : Sto B3 (wipe σ [j]) (ρ.set j .no) := s1.wipe [j] _ (by rw [List.length_set]) fun i r hr => by
          by_cases e : j = i
          · subst e
            by_cases hl : j < ρ.length
            · rw [List.getElem?_set_self hl] at hr; cases hr; exact .inl rfl
            · rw [List.getElem?_eq_none (by rw [List.length_set]; omega)] at hr; cases hr
          · rw [List.getElem?_set_ne e] at hr
            exact .inr ⟨by simpa using fun z => e z.symm, hr⟩
        have s3 := s2.set j (r := .dat d) (v := v) q3
        rwa [List.set_set] at s3
      -- what holds of D behind a piece of the turn
      have keepD : ∀ {B4 H4 μ4}, SInv ⟨B3, H3, fun p => μ2 p ≠ none⟩ B4 H4 μ4 → μ4 D = none ∧ B4 D = none ∧ H4 D = some (.lst xs) := fun {B4 H4 μ4} J4 => by
        refine ⟨?_, J4.out D (by show H3 D ≠ none; rw [h3]; exact nofun) b3, J4.keep D _ (fun z => z m2) h3⟩
        cases z : μ4 D with
        | none => rfl
        | some o =>
          rcases (J4.mus D o z).2.2 with c | c
          · exact absurd m2 c
          · rw [show H3 D = none from c] at h3; cases h3
      have hacc : xs.length < sizeLine := by
        rw [qx.length]
        have : i < items.length := hi
        exact Nat.lt_of_le_of_lt (Nat.le_trans hl (Nat.le_of_lt this)) (Nat.lt_of_le_of_lt hlen (by decide))
      have t := turn i acc d μ2 hd hl v2
      refine (t _ kb) _ B3 H3 S3 J3 _ fun b B4 H4 μ4 J4 e4 h4 => ?_
      cases b with
      | false =>
        rw [if_neg Bool.false_ne_true]
        obtain ⟨k1, k2, k3⟩ := keepD J4
        exact ⟨B4, μ4, acc, xs, I3.back J4, g2.trans (e3.trans e4), k1, k2, k3, (qx.mono e3).mono e4, Nat.le_succ_of_le hl, h4.2 rfl⟩
      | true =>
        rw [if_pos rfl]
        intro kc
        refine h4.1 rfl kc _ B4 H4 (S3.mono e4) J4 _ fun y r B5 H5 μ5 J5 e5 q5 h5 => ?_
        · obtain ⟨d', rfl, h5⟩ := h5
          obtain ⟨k1, k2, k3⟩ := keepD J5
          refine ⟨xs, k3, hacc, B5, μ5, acc ++ [d'], xs ++ [y], (I3.back J5).own k2 wD k1 _, g2.trans (e3.trans (e4.trans e5)), k1, k2, upd_same, (((qx.mono e3).mono e4).mono e5).snoc q5, by rw [List.length_append]; exact Nat.succ_le_succ hl, h5⟩
    rcases hy with ⟨rfl, q⟩ | ⟨T, ys, ds, rfl, hT, rfl, q, rfl⟩
    · exact core B2 I2 (Ex.refl _) b2 hx (q.mono g2)
    · have hb := (I2.free hT).1
      have ne : D ≠ T := fun z => by rw [z, hT] at hx; cases hx
      exact core (upd B2 T (.tup ys)) (I2.new hT _) (Ex.new hb) (by rw [upd_ne ne]; exact b2) (by rw [upd_ne ne]; exact hx) (.tup upd_same ((q.mono g2).mono (Ex.new hb)))
  · rintro H' ⟨B', μ', acc, xs, I', g', m', b', hx, qx, hl, v'⟩
    exact k (.ref D) (.dat (.lst acc)) (upd B' D (.lst xs)) H' μ' (I'.told b' wD m' hx) (e1.trans (g'.trans (Ex.new b'))) (Dq.lst upd_same (qx.mono (Ex.new b'))) (fin acc μ' v' hl)
end
end Dat

set_option Elab.async false
set_option linter.all false
set_option maxRecDepth 100000
set_option maxHeartbeats 4000000
/-! Dat4: comprehensions as expressions; targets; the program's own defs, called where no repr is under way. -/
namespace Dat
open PySem PySem.Spec PyProof.Rows L2
section
variable {X : Cx} {w : Wd} {ρ : List SV} {μ : Mus} {R : SV → Mus → Prop} {P : Po} {elt tg iter e : Expr} {es : List Expr} {ifs : List Expr} {scope : Scope} {pos px p py spos : Pos} {x y : Str}
theorem de_lc (j : Nat) (hc : X.calm = true) (hN : X.N.Nodup) (ok : BlkOk X.N X.env.scope scope [(x, j)]) (h : DI X w (.Name x px) iter ρ μ (LcAsk X scope elt ifs ρ j R)) (hi : X.N[j]? = some x := by rfl)
    (hx : ∀ k, Loc (BX X scope k).env.scope x := by intro _; first | exact Or.inl rfl | exact Or.inr rfl) (hf : ∀ k, (BX X scope k).fn x = true ∨ (BX X scope k).env.scope.names.lookup x = some .local := by intro _; first | exact Or.inr rfl | exact Or.inl rfl)
    (hs : ∀ z, foldedSetIterable iter X.env z = pure z := by intro _; rfl) : DE X w (.ListComp elt [⟨.Name x px, iter, ifs, 0⟩] scope pos) ρ μ R := fun σ B H S I Q k =>
  tE_of (pe_lc (own := [(x, j)]) (g := gName j) (tt := gQ X scope ifs) (te := gE X scope elt) hc hN pi_self ok (fun s H C cl fp => pg_name (X := BX X scope (s, H, C, cl, fp)) hN hi (hx (s, H, C, cl, fp)) (hf (s, H, C, cl, fp)))
    (fun s H C cl fp => ⟨fun pins s1 σ1 H1 Q1 I1 q => q (s, H, C, cl, fp) pins s1 I1⟩) (fun s H C cl fp => ⟨fun pins s1 σ1 H1 Q1 I1 q => q (s, H, C, cl, fp) pins s1 I1⟩) hs) (lc_data h S I k)
/-- name = [..], the name a local -/
theorem ds_setLc (i j : Nat) (hc : X.calm = true) (hN : X.N.Nodup) (ok : BlkOk X.N X.env.scope scope [(x, j)]) (h : DI X w (.Name x px) iter ρ μ (LcAsk X scope elt ifs ρ j fun r μ' => P.nx (ρ.set i r) μ')) (hi : X.N[j]? = some x := by rfl) (hy : X.N[i]? = some y := by rfl)
    (hyl : X.env.scope.names.lookup y = some .local := by rfl) (hsw : swapsWith (.ListComp elt [⟨.Name x px, iter, ifs, 0⟩] scope pos) (some (.Name y py)) spos.line X.env = pure true := by exact sw_true rfl rfl rfl (by decide +kernel))
    (hx : ∀ k, Loc (BX X scope k).env.scope x := by intro _; first | exact Or.inl rfl | exact Or.inr rfl) (hf : ∀ k, (BX X scope k).fn x = true ∨ (BX X scope k).env.scope.names.lookup x = some .local := by intro _; first | exact Or.inr rfl | exact Or.inl rfl)
    (hs : ∀ z, foldedSetIterable iter X.env z = pure z := by intro _; rfl) : DS X w (.Assign [.Name y py] (.ListComp elt [⟨.Name x px, iter, ifs, 0⟩] scope pos) spos) ρ μ P := fun σ B H S I D E =>
  tS_of (ps_setLc (own := [(x, j)]) (g := gName j) (tt := gQ X scope ifs) (te := gE X scope elt) hc hN hy hyl hsw pi_self ok (fun s H C cl fp => pg_name (X := BX X scope (s, H, C, cl, fp)) hN hi (hx (s, H, C, cl, fp)) (hf (s, H, C, cl, fp)))
    (fun s H C cl fp => ⟨fun pins s1 σ1 H1 Q1 I1 q => q (s, H, C, cl, fp) pins s1 I1⟩) (fun s H C cl fp => ⟨fun pins s1 σ1 H1 Q1 I1 q => q (s, H, C, cl, fp) pins s1 I1⟩) hs)
    (lc_data (Q := fun v H1 => D.nx (σ.set i (some v)) H1) h S I fun v r B1 H1 μ1 I1 e1 q1 h1 => E.nx _ B1 H1 _ μ1 ((S.mono e1).set i q1) I1 e1 h1)

/-! ### targets -/
theorem dg_name (i : Nat) {r : SV} {T : List SV → Mus → Prop} (hN : X.N.Nodup) (h : T (ρ.set i r) μ) (hi : X.N[i]? = some x := by rfl) (hx : Loc X.env.scope x := by first | exact Or.inl rfl | exact Or.inr rfl)
    (hf : X.fn x = true ∨ X.env.scope.names.lookup x = some .local := by first | exact .inl rfl | exact .inr rfl) : DG X w (.Name x pos) r ρ μ T := fun σ B H v S I q Q k =>
  tG_of (pg_name hN hi hx hf) (k _ B H _ μ (S.set i q) I (Ex.refl B) h)
def tGs (X : Cx) (ts : List Expr) : TGs := fun vs σ H Q => ∀ pins s us, Inv X pins σ H s → Vals vs us → wpAny (model X.prog X.w) X.A (assignInOrder ((assignEach ts X.env).map (·.2)) us) (fun _ s' => ∃ σ' H', Inv X pins σ' H' s' ∧ Q σ' H') X.xe s
theorem pgs_self {ts : List Expr} : PGs X ts (tGs X ts) := ⟨fun pins s _ _ _ us _ I r h => h pins s us I r⟩
theorem tGs_of {ts : List Expr} {t : TGs} {vs : List V} {σ : L2.St} {H : Hp} {Q : L2.St → Hp → Prop} (h : PGs X ts t) (q : t vs σ H Q) : tGs X ts vs σ H Q := fun pins s us I r => h.run pins s σ H vs us Q I r q
def DGs (X : Cx) (w : Wd) (ts : List Expr) (ds : List Dt) (ρ : List SV) (μ : Mus) (T : List SV → Mus → Prop) : Prop :=
  ∀ σ B H vs, Sto B σ ρ → SInv w B H μ → DqA B vs ds → ∀ Q : L2.St → Hp → Prop, (∀ σ' B' H' ρ' μ', Sto B' σ' ρ' → SInv w B' H' μ' → Ex B B' → T ρ' μ' → Q σ' H') → tGs X ts vs σ H Q
theorem dgs_nil {T : List SV → Mus → Prop} (h : T ρ μ) : DGs X w [] [] ρ μ T := fun σ B H vs S I q Q k => by
  cases q
  exact tGs_of pgs_nil ⟨rfl, k σ B H ρ μ S I (Ex.refl B) h⟩
theorem dgs_cons {d : Dt} {ds : List Dt} {T : List SV → Mus → Prop} (h : DG X w e (.dat d) ρ μ fun ρ1 μ1 => DGs X w es ds ρ1 μ1 T) (hs : (assignEach (e :: es) X.env).map (·.2) = assign e X.env :: (assignEach es X.env).map (·.2) := by rfl) :
    DGs X w (e :: es) (d :: ds) ρ μ T := fun σ B H vs S I q Q k => by
  cases q with
  | cons q1 q2 =>
    exact tGs_of (pgs_cons pg_self pgs_self hs) ⟨_, _, rfl, h σ B H _ S I q1 _ fun σ1 B1 H1 ρ1 μ1 S1 I1 e1 h1 => h1 σ1 B1 H1 _ S1 I1 (q2.mono e1) Q fun σ2 B2 H2 ρ2 μ2 S2 I2 e2 => k σ2 B2 H2 ρ2 μ2 S2 I2 (e1.trans e2)⟩
theorem dg_tup {ds : List Dt} {k : Nat} {T : List SV → Mus → Prop} (hc : X.calm = true) (h : DGs X w es ds ρ μ T) (hl : ds.length = es.length) (hn : (assignEach es X.env).length = es.length := by rfl) (hst : (assignEach es X.env).findIdx? (·.1) = none := by rfl) :
    DG X w (.Tuple es k pos) (.dat (.tup ds)) ρ μ T := fun σ B H v S I q Q kk => by
  cases q with
  | @tup a xs _ ha hx => exact tG_of (pg_tup hc pgs_self hn hst) ⟨a, xs, rfl, .inl (.inl (I.bh _ _ ha)), by rw [hx.length, hl], h σ B H xs S I hx Q kk⟩
/-- pot[0] = n, pot[1] = n -/
theorem dg_pot {o i : Expr} {n : Int} {T : List SV → Mus → Prop} (h : DE X w o ρ μ fun r μ1 => ∃ q, r = .at q ∧ DE X w i ρ μ1 fun r2 μ2 => μ2 q = some .pot ∧ ((r2 = .dat (.int 0) ∧ 0 ≤ n) ∨ (r2 = .dat (.int 1) ∧ 0 ≤ n ∧ n < 4294967296)) ∧ T ρ μ2)
    (ha : ∀ v, assign (.Subscript o i pos) X.env v = (do
      let ov ← holding [v] (eval o X.env)
      let iv ← holding [v, ov] (eval i X.env)
      standAt pos
      holding [v, ov, iv] (setItem ov iv v)
      release [v, ov, iv] []) := by intro _; rfl) : DG X w (.Subscript o i pos) (.dat (.int n)) ρ μ T := fun σ B H v S I q Q k => by
  cases q
  refine tG_of (pg_sub pe_self pe_self set_list ha) (h σ B H S I _ fun v1 r1 B1 H1 μ1 I1 e1 q1 h1 => ?_)
  obtain ⟨p, rfl, h1⟩ := h1
  cases (show v1 = V.ref p from q1)
  refine h1 σ B1 H1 (S.mono e1) I1 _ fun v2 r2 B2 H2 μ2 I2 e2 q2 h2 => ?_
  obtain ⟨hm, hr, hT⟩ := h2
  obtain ⟨_, ⟨a, b, ha, hb, hb2, hH⟩, _⟩ := I2.mus p _ hm
  rcases hr with ⟨rfl, hn⟩ | ⟨rfl, hn, hn2⟩
  · cases q2
    refine ⟨p, _, 0, 0, rfl, rfl, hH, rfl, k σ B2 _ ρ (μ2.put p .pot) (S.mono (e1.trans e2)) (I2.set hm .pot ⟨n, b, hn, hb, hb2, upd_same⟩) (e1.trans e2) ?_⟩
    rw [put_self hm]; exact hT
  · cases q2
    refine ⟨p, _, 1, 1, rfl, rfl, hH, rfl, k σ B2 _ ρ (μ2.put p .pot) (S.mono (e1.trans e2)) (I2.set hm .pot ⟨a, n, ha, hn, hn2, upd_same⟩) (e1.trans e2) ?_⟩
    rw [put_self hm]; exact hT
end

/-! ### the program's own defs -/
/-- a def's promise, of calls where no repr is under way -/
structure FnG (P : Program) (w : World) (K : PySem.W.Frag) (mg : Str → Option Value) (base : Heap) (k : Nat) (f : Addr) (fd : FuncData) (ps : List Str) (sp : Sp) : Prop where
  len : ∀ vs H Q E, sp vs H Q E → vs.length = ps.length
  run : ∀ (A : Around) (outer : List Env) (s : Shared) (H : Hp) (args : Args) (us : List Value) (vs : List V) (Q : VK) (E : XK), Room k A → A.guards = some [] → Env0 P w K mg base A outer s H → BindsTo s fd args (ps.zip us) → Vals vs us → sp vs H Q E →
    codeAny (model P w) A (.call (.ref f) args) (CR CX0 outer P w H s Q E) s
/-- over data: pre of the arguments, post of the answer -/
def GSp (pre : List SV → Mus → Prop) (post : List SV → Mus → SV → Mus → Prop) : Sp := fun vs H Q _ => ∃ B rs μ, SvA B vs rs ∧ Ex B H ∧ (∀ p o, μ p = some o → B p = none ∧ MoOk B H p o) ∧ pre rs μ ∧
  ∀ v r B' H' μ', SInv ⟨B, H, fun p => μ p ≠ none⟩ B' H' μ' → Svq B' v r → post rs μ r μ' → Q v H'
section
variable {P : Program} {wd : World} {K : PySem.W.Frag} {mg : Str → Option Value} {base : Heap}
/-- the context of a def's body -/
abbrev bx (P : Program) (wd : World) (K : PySem.W.Frag) (mg : Str → Option Value) (base : Heap) (N : List Str) (qual : Str) (st : Stmt) (f : Addr) (cdv : Value) (A : Around) (outer : List Env) (s : Shared) (H : Hp) : Cx :=
  (cxOf CX0 P wd K mg base N qual (defScope st) f cdv A outer s H E0).nox
theorem start_sto {N : List Str} {B : Hp} {vs : List V} {rs : List SV} (h : SvA B vs rs) : Sto B (L2.start N vs) (rs ++ List.replicate (N.length - rs.length) .no) := by
  have hl := h.length
  refine ⟨by unfold L2.start; simp [hl], fun i r hr => ?_⟩
  by_cases hi : i < rs.length
  · refine .inr ?_
    rw [List.getElem?_append_left hi] at hr
    have : ∀ {vs : List V} {rs : List SV} {i : Nat} {r : SV}, SvA B vs rs → rs[i]? = some r → ∃ v, vs[i]? = some v ∧ Svq B v r := by
      intro vs rs i r h
      induction h generalizing i with
      | nil => intro e; simp at e
      | cons h1 h2 ih =>
        intro e
        cases i with
        | zero => simp at e; subst e; exact ⟨_, rfl, h1⟩
        | succ i => exact ih (by simpa using e)
    obtain ⟨v, h1, h2⟩ := this h hr
    refine ⟨v, ?_, h2⟩
    unfold L2.start
    rw [List.getElem?_append_left (by rw [List.length_map, hl]; exact hi), List.getElem?_map, h1]
    rfl
  · rw [List.getElem?_append_right (by omega), List.getElem?_replicate] at hr
    split at hr
    · cases hr; exact .inl rfl
    · cases hr
theorem fn_ok {x qual : Str} {st : Stmt} {f : Addr} {fd : FuncData} {N ps : List Str} {k : Nat} {pre : List SV → Mus → Prop} {post : List SV → Mus → SV → Mus → Prop} (F : Fun K x qual st f fd) (S : FnScope N ps (defScope st))
    (len : ∀ rs μ, pre rs μ → rs.length = ps.length)
    (body : ∀ (cdv : Value) (A : Around) (outer : List Env) (s : Shared) (H : Hp), Room k (bx P wd K mg base N qual st f cdv A outer s H).A → (bx P wd K mg base N qual st f cdv A outer s H).A.guards = some [] → ∀ w rs μ, pre rs μ →
      DSs (bx P wd K mg base N qual st f cdv A outer s H) w (defBody st) (rs ++ List.replicate (N.length - rs.length) .no) μ { nx := fun _ μ' => ∃ ν, ν.Sub μ' ∧ post rs μ (.dat .non) ν, rt := fun r μ' => ∃ ν, ν.Sub μ' ∧ post rs μ r ν }) :
    FnG P wd K mg base (k + 1) f fd ps (GSp pre post) := by
  have len' : ∀ vs H Q E, GSp pre post vs H Q E → vs.length = ps.length := fun vs H Q E h => by
    obtain ⟨B, rs, μ, h1, _, _, h2, _⟩ := h
    rw [h1.length]; exact len rs μ h2
  obtain ⟨oc, od, kV, doc, pm, an, cdv, ct, osl, rfl, lk, hcd⟩ := F.ex
  refine ⟨len', fun A outer s H args us vs Q E hr hg en hb rv hsp => ?_⟩
  have inK : K.In s.heap := en.mod.kin.keeps fun b o z => (en.bs b o z).1
  refine codeAny_call_function hr.depth (inK _ _ lk) rfl S.co S.gen rfl (PySem.W.codeRec_of inK hcd) (hb _ _ _ _ (wpAny_newFunctionEnv_cells S.kind ?_ fun env he s1 hx => ?_))
  · rintro ⟨n, v⟩ hy
    have q := S.par n (List.of_mem_zip hy).1
    exact q.imp id fun z => ⟨z, PySem.W.cellsFrom_some _ _ _ (.inl z)⟩
  · subst he
    refine ⟨(en.mod.nolimit.keeps fun b o z => (en.bs b o z).1).keeps hx.toInCall.keep, codeAny_func ?_⟩
    have I0 := inv_start (CX := CX0) (qual := qual) (f := f) (cd := cdv) (E := E) S hr.hd en (len' _ _ _ _ hsp) rv hx
    obtain ⟨B, rs, μ, q1, q2, q3, q4, q5⟩ := id hsp
    have b0 := body cdv A outer s H (hr.deeper _) hg ⟨B, H, fun p => μ p ≠ none⟩ rs μ q4 (L2.start N vs) B H (start_sto q1) (SInv.start q2 q3) { nx := fun _ H' => Q .non H', rt := Q }
      ⟨fun _ B' H' _ μ' _ J _ ⟨ν, hν, h⟩ => q5 .non (.dat .non) B' H' ν (J.sub hν) Dq.non h, fun v r B' H' μ' J _ q ⟨ν, hν, h⟩ => q5 v r B' H' ν (J.sub hν) q h, fun _ _ _ _ _ _ _ _ h => h.elim, fun _ _ _ _ _ _ _ _ h => h.elim⟩
    refine wpAny_mono (b0 [] s1 (I0.wish _)) (fun fl s' hs => ?_) fun _ _ hs => hs.elim
    have done : ∀ {σ' : L2.St} {H' : Hp} {v : V} {u : Value}, Inv (bx P wd K mg base N qual st f cdv A outer s H) [] σ' H' s' → RelV v u → Q v H' → CE outer P wd H s Q u s' := fun {σ' H' v u} J rv q => ⟨v, H', J.os, J.bare, J.base, J.hok, rv, q⟩
    cases fl with
    | ret u => obtain ⟨v, σ', H', J, rv, q⟩ := hs; exact done J rv q
    | next => obtain ⟨σ', H', J, q⟩ := hs; exact done (v := V.non) (u := Value.none) J rfl q
    | brk => obtain ⟨_, _, _, q⟩ := hs; exact q.elim
    | cont => obtain ⟨_, _, _, q⟩ := hs; exact q.elim
end
section
variable {X : Cx} {w : Wd} {ρ : List SV} {μ : Mus} {R : SV → Mus → Prop} {e : Expr} {es : List Expr} {x : Str} {p pos : Pos} {k : Nat} {f : Addr} {fd : FuncData} {ps : List Str}
theorem de_call {pre : List SV → Mus → Prop} {post : List SV → Mus → SV → Mus → Prop} (F : FnG X.prog X.w X.K X.mg X.base k f fd ps (GSp pre post)) (hr : Room k X.A) (hgd : X.A.guards = some []) (hm : X.mg x = some (.ref f)) (hk : PySem.W.keepIn X.K (.ref f) = true) (hb : Binds X.K fd ps [])
    (ha : DA X w (e :: es) ρ μ fun rs μ1 => pre rs μ1 ∧ ∀ r μ2, post rs μ1 r μ2 → R r μ2) (hg : Gl X x := by rfl) (hdb : (x == ("__debug__" : Str)) = false := by decide)
    (he : starEach (e :: es) X.env = (false, eval e X.env) :: starEach es X.env := by rfl) (hpl : (backTo pos (starEach es X.env)).any (·.1) = false := by rfl) : DE X w (.Call (.Name x p) (e :: es) [] pos) ρ μ R := fun σ B H S I Q kk pins s J => by
  refine wpAny_Call_Name_kw (ld_glob J hg hm ?_ hdb)
  refine PySem.W.callWith_K (h₀ := X.base) J.ok.mod.kin hk (thn ((pa_self (X := X) (es := e :: es)).run pos pins s σ H _ J (ha σ B H S I
    (fun vs H1 => ∀ us s1, Inv X pins σ H1 s1 → Vals vs us → wpAny (model X.prog X.w) X.A (call (.ref f) us) (EP X pins σ Q) X.xe s1) ?_)) fun us s1 ⟨vs, H1, J1, rv, q⟩ => ⟨J1.kIn, q us s1 J1 rv⟩) he hpl
  intro vs rs B1 H1 μ1 I1 e1 q1 h1 us s1 J1 rv
  have hsp : GSp pre post vs H1 Q E0 := ⟨B1, rs, μ1, q1, I1.bh, fun p o z => ⟨(I1.mus p o z).1, (I1.mus p o z).2.1⟩, h1.1, fun v r B' H' μ' L qv hp => kk v r B' H' μ' (I1.back L) (e1.trans L.b0) qv (h1.2 r μ' hp)⟩
  have hl : (us ++ []).length = ps.length := by rw [List.append_nil, ← rv.length]; exact F.len _ _ _ _ hsp
  have bd := hb s1 us J1.kIn hl
  rw [List.append_nil] at bd
  refine wpAny_call (codeAny_mono (F.run X.A X.stack s1 H1 ⟨us, []⟩ us vs Q E0 hr hgd J1.env0 bd rv hsp) fun r s' hq => ?_)
  match r, hq with
  | .ok (.ret u), hq => exact J1.after hq
  | .ok .next, hq => exact hq.elim
  | .ok .brk, hq => exact hq.elim
  | .ok .cont, hq => exact hq.elim
  | .error _, hq => exact hq.elim
end
end Dat

set_option Elab.async false
set_option linter.all false
set_option maxRecDepth 100000
set_option maxHeartbeats 4000000
/-! Dat5: repr of data. -/
namespace Dat
open PySem PySem.Spec PyProof.Rows L2
mutual
def toPy : Dt → PyData
  | .non => .none | .bl b => .bool b | .int i => .int i | .str x => .str x | .lst xs => .list (toPyA xs) | .tup xs => .tuple (toPyA xs) | .dic ks vs => .dict ((toPyA ks).zip (toPyA vs)) | .obj _ _ _ => .none
def toPyA : List Dt → List PyData
  | [] => []
  | d :: ds => toPy d :: toPyA ds
end
mutual
/-- what repr is told of: no own objects -/
def plain : Dt → Bool
  | .lst xs => plainA xs | .tup xs => plainA xs | .dic ks vs => plainA vs | .obj _ _ _ => false | _ => true
def plainA : List Dt → Bool
  | [] => true
  | d :: ds => plain d && plainA ds
end
mutual
def hasLst : Dt → Bool
  | .lst _ => true | .tup xs => hasLstA xs | .dic ks vs => hasLstA vs | _ => false
def hasLstA : List Dt → Bool
  | [] => false
  | d :: ds => hasLst d || hasLstA ds
end
theorem toPyA_map : ∀ ds : List Dt, toPyA ds = ds.map toPy
  | [] => by simp [toPyA]
  | d :: ds => by simp [toPyA, toPyA_map ds]
theorem toPyA_len (ds : List Dt) : (toPyA ds).length = ds.length := by rw [toPyA_map, List.length_map]
theorem keyVals {κ : Type} : ∀ {kvs : List (κ × V)} {vs : List (κ × Value)}, KV kvs vs → Vals (kvs.map (·.2)) (vs.map (·.2))
  | _, _, .nil => .nil
  | _, _, .cons h t => .cons h.2 (keyVals t)
section
variable {X : Cx} {pins : List (Addr × Obj)} {σ : L2.St} {H : Hp} {s : Shared} {h : Heap}
theorem dictParts {P : Program} {w : World} : ∀ {es : List DictEntry} {vs : List (Key × Value)} {kvs : List (Key × V)}, Pairs (mixKind P w) es vs → KV kvs vs →
    ReadsAll h (es.map (·.key)) (toPyA (kvs.map fun kv => keyD kv.1)) [] ∧ Vals (kvs.map (·.2)) (es.map (·.val)) := by
  intro es vs kvs p r
  induction p generalizing kvs with
  | nil => cases r; exact ⟨.nil, .nil⟩
  | @cons e kv es' vs' hk hv t ih =>
    cases r with
    | @cons a _ l1 _ r1 r2 =>
      obtain ⟨h1, h2⟩ := ih r2
      have q : Reads h e.key (toPy (keyD a.1)) [] := by
        rcases keyIs_shape (show keyIs kv.1 e.key = true from hk) with ⟨i, t, e1, e2⟩ | ⟨x, t, e1, e2⟩
        · rw [r1.1, e1, e2]; exact .int i t
        · rw [r1.1, e1, e2]; exact .str x t
      refine ⟨?_, .cons (by show L2.RelV a.2 e.val; rw [hv]; exact r1.2) h2⟩
      have z := ReadsAll.cons q h1
      rw [List.map_cons, List.map_cons, toPyA]
      exact z
theorem zip_maps {α β : Type} : ∀ {as : List α} {bs : List β}, as.length = bs.length → (as.zip bs).map (·.1) = as ∧ (as.zip bs).map (·.2) = bs
  | [], [], _ => ⟨rfl, rfl⟩
  | a :: as, b :: bs, h => by
    obtain ⟨h1, h2⟩ := zip_maps (as := as) (bs := bs) (by simpa using h)
    exact ⟨by rw [List.zip_cons_cons, List.map_cons, h1], by rw [List.zip_cons_cons, List.map_cons, h2]⟩
  | [], _ :: _, h => by simp at h
  | _ :: _, [], h => by simp at h
mutual
theorem Dq.reads (I : Inv X pins σ H s) : ∀ (d : Dt) (v : V) (u : Value), Dq H v d → plain d = true → RelV v u → ∃ as, Reads s.heap u (toPy d) as ∧ (hasLst d = false → sysModules ∉ as)
  | .non, _, _, h, _, r => by cases h; cases r; exact ⟨[], by rw [toPy]; exact .none, fun _ => List.not_mem_nil⟩
  | .bl b, _, _, h, _, r => by cases h; cases r; exact ⟨[], by rw [toPy]; exact .bool b, fun _ => List.not_mem_nil⟩
  | .int i, _, _, h, _, r => by cases h; obtain ⟨t, rfl⟩ := r; exact ⟨[], by rw [toPy]; exact .int i t, fun _ => List.not_mem_nil⟩
  | .str x, _, _, h, _, r => by cases h; obtain ⟨t, rfl⟩ := r; exact ⟨[], by rw [toPy]; exact .str x t, fun _ => List.not_mem_nil⟩
  | .lst ds, _, _, h, hp, r => by
    cases h with
    | lst hs ha =>
      cases r
      obtain ⟨_, its, n, rv, ho⟩ := (show ObjOk X.prog X.w H s.heap _ (.lst _) from I.hok _ _ hs)
      obtain ⟨as, hr, _⟩ := Dq.readsA I ds _ its ha (by simpa [plain] using hp) rv
      exact ⟨_, by rw [toPy]; exact .list ho rfl rfl hr, fun z => by simp [hasLst] at z⟩
  | .tup ds, _, _, h, hp, r => by
    cases h with
    | tup hs ha =>
      cases r
      obtain ⟨_, its, rv, o, ho, hc, n, hd⟩ := (show ObjOk X.prog X.w H s.heap _ (.tup _) from I.hok _ _ hs)
      obtain ⟨as, hr, hm⟩ := Dq.readsA I ds _ its ha (by simpa [plain] using hp) rv
      exact ⟨as, by rw [toPy]; exact .tuple ho hc hd hr, fun z => hm (by simpa [hasLst] using z)⟩
  | .dic ks ds, _, _, h, hp, r => by
    cases h with
    | @dic a kvs _ hs ha =>
      cases r
      obtain ⟨_, hsm, vs, rv, o, es, ep, ho, hx, hd, _, pr, _⟩ := (show ObjOk X.prog X.w H s.heap _ (.dK _) from I.hok _ _ hs)
      obtain ⟨h1, h2⟩ := dictParts (h := s.heap) pr rv
      obtain ⟨as, hr, hm⟩ := Dq.readsA I ds _ _ ha (by simpa [plain] using hp) h2
      have hl : (toPyA (kvs.map fun kv => keyD kv.1)).length = (toPyA ds).length := by rw [toPyA_len, toPyA_len, List.length_map, ← ha.length, List.length_map]
      obtain ⟨z1, z2⟩ := zip_maps hl
      have z : a ≠ sysModules := by simpa using hsm
      refine ⟨a :: [] ++ as, ?_, fun w => ?_⟩
      · rw [toPy]
        exact .dict ho hx.1 hd (by rw [z1]; exact h1) (by rw [z2]; exact hr)
      · have w' := hm (by simpa [hasLst] using w)
        intro q
        rcases List.mem_cons.mp q with e | e
        · exact z e.symm
        · exact w' e
  | .obj _ _ _, _, _, _, hp, _ => by simp [plain] at hp
theorem Dq.readsA (I : Inv X pins σ H s) : ∀ (ds : List Dt) (vs : List V) (us : List Value), DqA H vs ds → plainA ds = true → Vals vs us → ∃ as, ReadsAll s.heap us (toPyA ds) as ∧ (hasLstA ds = false → sysModules ∉ as)
  | [], _, _, h, _, r => by cases h; cases r; exact ⟨[], by rw [toPyA]; exact .nil, fun _ => List.not_mem_nil⟩
  | d :: ds, _, _, h, hp, r => by
    cases h with
    | cons h1 h2 =>
      cases r with
      | cons r1 r2 =>
        have hp' : plain d = true ∧ plainA ds = true := by simpa [plainA] using hp
        obtain ⟨as, q1, m1⟩ := Dq.reads I d _ _ h1 hp'.1 r1
        obtain ⟨bs, q2, m2⟩ := Dq.readsA I ds _ _ h2 hp'.2 r2
        refine ⟨as ++ bs, by rw [toPyA]; exact .cons q1 q2, fun w => ?_⟩
        have w' : hasLst d = false ∧ hasLstA ds = false := by simpa [hasLstA] using w
        intro q
        rcases List.mem_append.mp q with e | e
        · exact m1 w'.1 e
        · exact m2 w'.2 e
end
/-- what repr is told of, n: the longest text -/
structure Shown (d : Dt) : Prop where
  plain : plain d = true
  one : (toPy d).hasDict = true → hasLst d = false
  shows : (toPy d).showable = true
  len : (toPy d).shown.length ≤ sizeLine
  deep : (toPy d).depth ≤ 60
theorem ca_repr {w : Wd} {μ : Mus} {R : SV → Mus → Prop} {d : Dt} {k : Nat} (hr : Room k X.A) (hg : X.A.guards = some []) (hd : Shown d) (h : R (.dat (.str (toPy d).shown)) μ) : CaD X w (.builtin "repr") [.dat d] μ R := fun B H vs I q Q kk pins s σ us J rv => by
  cases q with
  | cons q1 q2 =>
    cases q2
    obtain ⟨u, rfl, r1⟩ := vals1 rv
    have fin : ∀ {s' : Shared} {t : Tok}, Inv X pins σ H s' → EP X pins σ Q (.str (toPy d).shown t) s' := fun {s' t} J' => ⟨.str _, H, J', ⟨t, rfl⟩, kk (.str _) (.dat (.str _)) B H μ I (Ex.refl B) (Dq.str _) h⟩
    have obj : ∀ a, u = .ref a → wpAny (model X.prog X.w) X.A (call (.builtin "repr") [u]) (EP X pins σ Q) X.xe s := fun a e => by
      obtain ⟨as, rd, hm⟩ := Dq.reads J d _ u (q1.mono I.bh) hd.plain r1
      subst e
      have hu := hr.un
      have hdp := hd.deep
      exact repr_of_reads' rd hd.shows (fun z => hm (hd.one z)) hg (by omega) (fun _ _ e => e) (fun h' t tk keep => fin (J.kept (t' := tk) keep)) hd.len
    clear h kk
    cases d with
    | non =>
      cases q1; cases r1
      simp only [toPy, PyData.shown] at fin
      exact P.repr_of_none (fin (J.tok _))
    | bl b =>
      cases q1; cases r1
      simp only [toPy, PyData.shown] at fin
      refine P.repr_of_bool ?_
      cases b
      · exact fin (J.tok _)
      · exact fin (J.tok _)
    | int i =>
      cases q1; obtain ⟨t, rfl⟩ := r1
      have hs := hd.shows
      simp only [toPy, PyData.shown, PyData.showable, decide_eq_true_eq] at fin hs
      exact P.repr_of_int hs (fin (J.tok _))
    | str x =>
      cases q1; obtain ⟨t, rfl⟩ := r1
      have hl := hd.len
      simp only [toPy, PyData.shown] at fin hl
      exact P.repr_of_str (fin (J.tok _)) hl
    | lst _ => cases q1; exact obj _ r1
    | tup _ => cases q1; exact obj _ r1
    | dic _ _ => cases q1; exact obj _ r1
    | obj _ _ _ => cases q1; exact obj _ r1
end
end Dat

set_option Elab.async false
set_option linter.all false
set_option maxRecDepth 100000
set_option maxHeartbeats 4000000
/-! Dat6: operations, subscripts, built-ins, methods over data. -/
namespace Dat
open PySem PySem.Spec PyProof.Rows L2
/-- a list, data or one that may change -/
def LsQ (r : SV) (μ : Mus) (ds : List Dt) : Prop := r = .dat (.lst ds) ∨ ∃ p, r = .at p ∧ μ p = some (.lst ds)
theorem ls_get {w : Wd} {B H : Hp} {μ : Mus} {v : V} {r : SV} {ds : List Dt} (I : SInv w B H μ) (q : Svq B v r) (h : LsQ r μ ds) : ∃ a xs, v = .ref a ∧ H a = some (.lst xs) ∧ DqA B xs ds := by
  rcases h with rfl | ⟨p, rfl, hm⟩
  · cases q with
    | @lst a xs _ ha hx => exact ⟨a, xs, rfl, I.bh _ _ ha, hx⟩
  · obtain ⟨_, ⟨xs, h1, h2⟩, _⟩ := I.mus p _ hm
    exact ⟨p, xs, q, h1, h2⟩
def cutD (ds : List Dt) (lo hi : Option Int) : List Dt := (ds.drop (HT.sIx ds.length 0 lo)).take (HT.sIx ds.length ds.length hi - HT.sIx ds.length 0 lo)
theorem DqA.cut {H : Hp} {vs : List V} {ds : List Dt} (q : DqA H vs ds) (lo hi : Option Int) : DqA H (cutV vs lo hi) (cutD ds lo hi) := by
  unfold cutV cutD
  rw [q.length]
  exact (q.drop _).take _
theorem DqA.at {H : Hp} {vs : List V} {ds : List Dt} {i : Int} {d : Dt} (q : DqA H vs ds) (h : atI ds i = some d) : ∃ v, atI vs i = some v ∧ Dq H v d := by
  unfold atI at h ⊢
  rw [q.length]
  cases e : ixN ds.length i with
  | none => rw [e] at h; cases h
  | some j =>
    rw [e] at h
    exact q.get h
mutual
def noDic : Dt → Bool
  | .lst xs => noDicA xs | .tup xs => noDicA xs | .dic _ _ => false | .obj _ _ _ => false | _ => true
def noDicA : List Dt → Bool
  | [] => true
  | d :: ds => noDic d && noDicA ds
end
mutual
theorem Dq.toDp {K : PySem.W.Frag} {B H : Hp} (e : Ex B H) : ∀ {v : V} {d : Dt}, Dq B v d → noDic d = true → Dp K H v (toPy d)
  | _, _, .non, _ => by rw [toPy]; exact .non
  | _, _, .bl b, _ => by rw [toPy]; exact .bl b
  | _, _, .int i, _ => by rw [toPy]; exact .int i
  | _, _, .str x, _ => by rw [toPy]; exact .str x
  | _, _, .lst h q, n => by rw [toPy]; exact .lst (.inl (.inl (e _ _ h))) (DqA.toDp e q (by simpa [noDic] using n))
  | _, _, .tup h q, n => by rw [toPy]; exact .tup (.inl (.inl (e _ _ h))) (DqA.toDp e q (by simpa [noDic] using n))
  | _, _, .dic h q, n => by simp [noDic] at n
  | _, _, .obj h q, n => by simp [noDic] at n
theorem DqA.toDp {K : PySem.W.Frag} {B H : Hp} (e : Ex B H) : ∀ {vs : List V} {ds : List Dt}, DqA B vs ds → noDicA ds = true → DpAll K H vs (toPyA ds)
  | _, _, .nil, _ => by rw [toPyA]; exact .nil
  | _, _, .cons h q, n => by
    have n' := Bool.and_eq_true_iff.mp (show (noDic _ && noDicA _) = true by simpa [noDicA] using n)
    rw [toPyA]; exact .cons (Dq.toDp e h n'.1) (DqA.toDp e q n'.2)
end

section
variable {X : Cx} {w : Wd} {μ : Mus} {R : SV → Mus → Prop} {i j : Int} {x y : Str} {xs ys : List Dt}
/-! ### arithmetic, texts, lists, tuples -/
theorem op_addI (h : R (.dat (.int (i + j))) μ) : OpD X w (binaryOp .Add) (.dat (.int i)) (.dat (.int j)) μ R := fun B H v u I q1 q2 Q k => by
  cases q1; cases q2; exact sO_of op_add ⟨i, j, rfl, rfl, k (.int _) (.dat (.int _)) B H μ I (Ex.refl B) (Dq.int _) h⟩
theorem op_subI (h : R (.dat (.int (i - j))) μ) : OpD X w (binaryOp .Sub) (.dat (.int i)) (.dat (.int j)) μ R := fun B H v u I q1 q2 Q k => by
  cases q1; cases q2; exact sO_of op_sub ⟨i, j, rfl, rfl, k (.int _) (.dat (.int _)) B H μ I (Ex.refl B) (Dq.int _) h⟩
theorem op_mulI (hb : (-(2 ^ 64) < i ∧ i < 2 ^ 64) ∨ (-(2 ^ 64) < j ∧ j < 2 ^ 64)) (h : R (.dat (.int (i * j))) μ) : OpD X w (binaryOp .Mult) (.dat (.int i)) (.dat (.int j)) μ R := fun B H v u I q1 q2 Q k => by
  cases q1; cases q2; exact sO_of op_mul ⟨i, j, rfl, rfl, hb, k (.int _) (.dat (.int _)) B H μ I (Ex.refl B) (Dq.int _) h⟩
theorem op_modI (hj : 0 < j) (h : R (.dat (.int (i % j))) μ) : OpD X w (binaryOp .Mod) (.dat (.int i)) (.dat (.int j)) μ R := fun B H v u I q1 q2 Q k => by
  cases q1; cases q2; exact sO_of op_mod ⟨i, j, rfl, rfl, hj, k (.int _) (.dat (.int _)) B H μ I (Ex.refl B) (Dq.int _) h⟩
theorem op_fdivI (hj : 0 < j) (hj2 : j < 1073741824) (h : R (.dat (.int (i / j))) μ) : OpD X w (binaryOp .FloorDiv) (.dat (.int i)) (.dat (.int j)) μ R := fun B H v u I q1 q2 Q k => by
  cases q1; cases q2; exact sO_of op_fdiv ⟨i, j, rfl, rfl, ⟨hj, hj2⟩, k (.int _) (.dat (.int _)) B H μ I (Ex.refl B) (Dq.int _) h⟩
theorem op_powI (hj : 0 ≤ j) (hj2 : j ≤ 1000000) (hi : i.natAbs < 2 ^ 64) (h : R (.dat (.int (i ^ j.toNat))) μ) : OpD X w (binaryOp .Pow) (.dat (.int i)) (.dat (.int j)) μ R := fun B H v u I q1 q2 Q k => by
  cases q1; cases q2; exact sO_of op_pow ⟨i, j, rfl, rfl, ⟨hj, hj2, hi⟩, k (.int _) (.dat (.int _)) B H μ I (Ex.refl B) (Dq.int _) h⟩
theorem un_negI (h : R (.dat (.int (-i))) μ) : UnD X w (unaryOp .USub) (.dat (.int i)) μ R := fun B H v I q Q k => by
  cases q; exact sU_of un_neg ⟨i, rfl, k (.int _) (.dat (.int _)) B H μ I (Ex.refl B) (Dq.int _) h⟩
theorem op_addS (hl : x.length + y.length ≤ sizeLine) (h : R (.dat (.str (x ++ y))) μ) : OpD X w (binaryOp .Add) (.dat (.str x)) (.dat (.str y)) μ R := fun B H v u I q1 q2 Q k => by
  cases q1; cases q2; exact sO_of op_add_str ⟨x, y, rfl, rfl, hl, k (.str _) (.dat (.str _)) B H μ I (Ex.refl B) (Dq.str _) h⟩
theorem op_addT (hl : xs.length + ys.length ≤ sizeLine) (h : R (.dat (.tup (xs ++ ys))) μ) : OpD X w (binaryOp .Add) (.dat (.tup xs)) (.dat (.tup ys)) μ R := fun B H v u I q1 q2 Q k => by
  cases q1 with
  | @tup a as _ ha hx =>
    cases q2 with
    | @tup b bs _ hb hy =>
      refine sO_of op_catA ⟨a, b, as, bs, rfl, rfl, .inl (.inl (I.bh _ _ ha)), .inl (.inl (I.bh _ _ hb)), by rw [hx.length, hy.length]; exact hl, fun e => ?_, fun _ e => ?_, fun _ _ p hp => ?_⟩
      · subst e
        cases hx
        exact k _ (.dat (.tup ([] ++ ys))) B H μ I (Ex.refl B) (Dq.tup hb hy) h
      · subst e
        cases hy
        exact k _ (.dat (.tup (xs ++ []))) B H μ I (Ex.refl B) (by rw [List.append_nil]; exact Dq.tup ha hx) h
      · have f := (I.free hp).1
        exact k _ (.dat (.tup (xs ++ ys))) _ _ μ (I.new hp _) (Ex.new f) (Dq.tup upd_same ((hx.append hy).mono (Ex.new f))) h
theorem op_addL {r r' : SV} (h1 : LsQ r μ xs) (h2 : LsQ r' μ ys) (hl : xs.length + ys.length ≤ sizeLine) (h : R (.dat (.lst (xs ++ ys))) μ) : OpD X w (binaryOp .Add) r r' μ R := fun B H v u I q1 q2 Q k => by
  obtain ⟨a, as, rfl, ha, hx⟩ := ls_get I q1 h1
  obtain ⟨b, bs, rfl, hb, hy⟩ := ls_get I q2 h2
  refine sO_of op_cat ⟨a, b, as, bs, rfl, rfl, ha, hb, by rw [hx.length, hy.length]; exact hl, fun p hp => ?_⟩
  have f := (I.free hp).1
  exact k _ (.dat (.lst (xs ++ ys))) _ _ μ (I.new hp _) (Ex.new f) (Dq.lst upd_same ((hx.append hy).mono (Ex.new f))) h

/-! ### comparisons -/
theorem op_cmpI {op : CmpOp} {g : Int → Int → Bool} (ho : OpR X (compareOp op) (rI0 fun i j => .bl (g i j))) (h : R (.dat (.bl (g i j))) μ) : OpD X w (compareOp op) (.dat (.int i)) (.dat (.int j)) μ R := fun B H v u I q1 q2 Q k => by
  cases q1; cases q2; exact sO_of ho ⟨i, j, rfl, rfl, k (.bl _) (.dat (.bl _)) B H μ I (Ex.refl B) (Dq.bl _) h⟩
theorem op_ltI (h : R (.dat (.bl (decide (i < j)))) μ) : OpD X w (compareOp .Lt) (.dat (.int i)) (.dat (.int j)) μ R := op_cmpI op_lt h
theorem op_leI (h : R (.dat (.bl (decide (i ≤ j)))) μ) : OpD X w (compareOp .LtE) (.dat (.int i)) (.dat (.int j)) μ R := op_cmpI op_le h
theorem op_gtI (h : R (.dat (.bl (decide (j < i)))) μ) : OpD X w (compareOp .Gt) (.dat (.int i)) (.dat (.int j)) μ R := op_cmpI op_gt h
theorem op_geI (h : R (.dat (.bl (decide (j ≤ i)))) μ) : OpD X w (compareOp .GtE) (.dat (.int i)) (.dat (.int j)) μ R := op_cmpI op_ge h
theorem op_eqI (h : R (.dat (.bl (decide (i = j)))) μ) : OpD X w (compareOp .Eq) (.dat (.int i)) (.dat (.int j)) μ R := fun B H v u I q1 q2 Q k => by
  cases q1; cases q2
  have e : decide (V.int i = V.int j) = decide (i = j) := by simp
  exact sO_of op_eq ⟨rfl, k (.bl _) (.dat (.bl _)) B H μ I (Ex.refl B) (Dq.bl _) (by rw [e]; exact h)⟩
theorem op_neI (h : R (.dat (.bl (!decide (i = j)))) μ) : OpD X w (compareOp .NotEq) (.dat (.int i)) (.dat (.int j)) μ R := fun B H v u I q1 q2 Q k => by
  cases q1; cases q2
  have e : decide (V.int i = V.int j) = decide (i = j) := by simp
  exact sO_of op_ne ⟨rfl, k (.bl _) (.dat (.bl _)) B H μ I (Ex.refl B) (Dq.bl _) (by rw [e]; exact h)⟩
theorem op_eqS (h : R (.dat (.bl (decide (x = y)))) μ) : OpD X w (compareOp .Eq) (.dat (.str x)) (.dat (.str y)) μ R := fun B H v u I q1 q2 Q k => by
  cases q1; cases q2
  have e : decide (V.str x = V.str y) = decide (x = y) := by simp
  exact sO_of op_eq ⟨rfl, k (.bl _) (.dat (.bl _)) B H μ I (Ex.refl B) (Dq.bl _) (by rw [e]; exact h)⟩
theorem op_neS (h : R (.dat (.bl (!decide (x = y)))) μ) : OpD X w (compareOp .NotEq) (.dat (.str x)) (.dat (.str y)) μ R := fun B H v u I q1 q2 Q k => by
  cases q1; cases q2
  have e : decide (V.str x = V.str y) = decide (x = y) := by simp
  exact sO_of op_ne ⟨rfl, k (.bl _) (.dat (.bl _)) B H μ I (Ex.refl B) (Dq.bl _) (by rw [e]; exact h)⟩
theorem op_leS (h : R (.dat (.bl (!decide (y.cps.toList < x.cps.toList)))) μ) : OpD X w (compareOp .LtE) (.dat (.str x)) (.dat (.str y)) μ R := fun B H v u I q1 q2 Q k => by
  cases q1; cases q2; exact sO_of op_le_str ⟨x, y, rfl, rfl, k (.bl _) (.dat (.bl _)) B H μ I (Ex.refl B) (Dq.bl _) h⟩
/-- lists, tuples, whatever they hold (no dicts) -/
theorem op_eqDt {d e : Dt} {k : Nat} (hr : Room k X.A) (hd : noDic d = true) (he : noDic e = true) (s1 : SeqAt.shaped (toPy d) = true) (s2 : SeqAt.shaped (toPy e) = true) (h : R (.dat (.bl (PyData.eqv (toPy d) (toPy e)))) μ) : OpD X w (compareOp .Eq) (.dat d) (.dat e) μ R := fun B H v u I q1 q2 Q k =>
  sO_of (op_eqD hr.units) ⟨_, _, Dq.toDp I.bh q1 hd, Dq.toDp I.bh q2 he, s1, s2, k (.bl _) (.dat (.bl _)) B H μ I (Ex.refl B) (Dq.bl _) h⟩
theorem op_neDt {d e : Dt} {k : Nat} (hr : Room k X.A) (hd : noDic d = true) (he : noDic e = true) (s1 : SeqAt.shaped (toPy d) = true) (s2 : SeqAt.shaped (toPy e) = true) (h : R (.dat (.bl (!PyData.eqv (toPy d) (toPy e)))) μ) : OpD X w (compareOp .NotEq) (.dat d) (.dat e) μ R := fun B H v u I q1 q2 Q k =>
  sO_of (op_neD hr.units) ⟨_, _, Dq.toDp I.bh q1 hd, Dq.toDp I.bh q2 he, s1, s2, k (.bl _) (.dat (.bl _)) B H μ I (Ex.refl B) (Dq.bl _) h⟩
theorem op_signIn {c : Nat} (h : R (.dat (.bl (decide (c ∈ y.cps.toList)))) μ) : OpD X w (compareOp .In) (.dat (.str ⟨#[c]⟩)) (.dat (.str y)) μ R := fun B H v u I q1 q2 Q k => by
  cases q1; cases q2; exact sO_of op_in_sign ⟨c, y, rfl, rfl, k (.bl _) (.dat (.bl _)) B H μ I (Ex.refl B) (Dq.bl _) h⟩
theorem op_signNotIn {c : Nat} (h : R (.dat (.bl (!decide (c ∈ y.cps.toList)))) μ) : OpD X w (compareOp .NotIn) (.dat (.str ⟨#[c]⟩)) (.dat (.str y)) μ R := fun B H v u I q1 q2 Q k => by
  cases q1; cases q2; exact sO_of op_notIn_sign ⟨c, y, rfl, rfl, k (.bl _) (.dat (.bl _)) B H μ I (Ex.refl B) (Dq.bl _) h⟩
theorem inV_strs : ∀ (x : Str) (zs : List Str), inV (.str x) (zs.map V.str) = decide (x ∈ zs)
  | x, [] => rfl
  | x, z :: zs => by
    have ih := inV_strs x zs
    unfold inV at ih ⊢
    rw [List.map_cons, List.any_cons, ih]
    show ((z == x) || _) = _
    by_cases e : z = x
    · subst e; simp
    · have e' : ¬ x = z := fun q => e q.symm
      have b : (z == x) = false := by simpa using e
      rw [b]; simp [e']
theorem flat_strs : ∀ zs : List Str, (zs.map V.str).all flatV = true
  | [] => rfl
  | z :: zs => by rw [List.map_cons, List.all_cons, flat_strs zs]; rfl
theorem op_notInL {r : SV} {zs : List Str} (h1 : LsQ r μ (zs.map Dt.str)) (h : R (.dat (.bl (!decide (x ∈ zs)))) μ) : OpD X w (compareOp .NotIn) (.dat (.str x)) r μ R := fun B H v u I q1 q2 Q k => by
  cases q1
  obtain ⟨a, as, rfl, ha, hx⟩ := ls_get I q2 h1
  have e := DqA.strs hx
  subst e
  refine sO_of op_notIn_seq ⟨a, _, rfl, .inl (.inl (.inl ha)), rfl, flat_strs zs, ?_⟩
  rw [if_pos rfl, inV_strs]
  exact k (.bl _) (.dat (.bl _)) B H μ I (Ex.refl B) (Dq.bl _) h
theorem op_inL {r : SV} {zs : List Str} (h1 : LsQ r μ (zs.map Dt.str)) (h : R (.dat (.bl (decide (x ∈ zs)))) μ) : OpD X w (compareOp .In) (.dat (.str x)) r μ R := fun B H v u I q1 q2 Q k => by
  cases q1
  obtain ⟨a, as, rfl, ha, hx⟩ := ls_get I q2 h1
  have e := DqA.strs hx
  subst e
  refine sO_of op_in_seq ⟨a, _, rfl, .inl (.inl (.inl ha)), rfl, flat_strs zs, ?_⟩
  rw [if_neg Bool.false_ne_true, inV_strs]
  exact k (.bl _) (.dat (.bl _)) B H μ I (Ex.refl B) (Dq.bl _) h

/-! ### subscripts, slices -/
theorem ix_dL {r : SV} {d : Dt} (h1 : LsQ r μ xs) (ha : atI xs i = some d) (h : R (.dat d) μ) : IxD X w r (.dat (.int i)) μ R := fun B H v u I q1 q2 Q k => by
  cases q2
  obtain ⟨a, as, rfl, hH, hx⟩ := ls_get I q1 h1
  obtain ⟨v, e1, e2⟩ := hx.at ha
  exact sIx_of ix_list ⟨a, as, i, v, rfl, rfl, .inl (.inl hH), e1, k v (.dat d) B H μ I (Ex.refl B) e2 h⟩
theorem ix_dT {d : Dt} (ha : atI xs i = some d) (h : R (.dat d) μ) : IxD X w (.dat (.tup xs)) (.dat (.int i)) μ R := fun B H v u I q1 q2 Q k => by
  cases q2
  cases q1 with
  | @tup a as _ hH hx =>
    obtain ⟨v, e1, e2⟩ := hx.at ha
    exact sIx_of ix_tup ⟨a, as, i, v, rfl, rfl, .inl (.inl (I.bh _ _ hH)), e1, k v (.dat d) B H μ I (Ex.refl B) e2 h⟩
theorem ix_dS {c : Nat} (hl : x.length ≤ sizeLine) (ha : atI x.cps.toList i = some c) (h : R (.dat (.str ⟨#[c]⟩)) μ) : IxD X w (.dat (.str x)) (.dat (.int i)) μ R := fun B H v u I q1 q2 Q k => by
  cases q1; cases q2; exact sIx_of ix_str ⟨x, i, c, rfl, rfl, hl, ha, k (.str _) (.dat (.str _)) B H μ I (Ex.refl B) (Dq.str _) h⟩
theorem ix_pot0 {p : Addr} (hm : μ p = some .pot) (h : ∀ a : Int, 0 ≤ a → R (.dat (.int a)) μ) : IxD X w (.at p) (.dat (.int 0)) μ R := fun B H v u I q1 q2 Q k => by
  cases q2
  cases (show v = V.ref p from q1)
  obtain ⟨_, ⟨a, b, ha, hb, hb2, hH⟩, _⟩ := I.mus p _ hm
  exact sIx_of ix_list ⟨p, _, 0, _, rfl, rfl, .inl (.inl hH), rfl, k (.int a) (.dat (.int a)) B H μ I (Ex.refl B) (Dq.int _) (h a ha)⟩
theorem ix_pot1 {p : Addr} (hm : μ p = some .pot) (h : ∀ b : Int, 0 ≤ b → b < 4294967296 → R (.dat (.int b)) μ) : IxD X w (.at p) (.dat (.int 1)) μ R := fun B H v u I q1 q2 Q k => by
  cases q2
  cases (show v = V.ref p from q1)
  obtain ⟨_, ⟨a, b, ha, hb, hb2, hH⟩, _⟩ := I.mus p _ hm
  exact sIx_of ix_list ⟨p, _, 1, _, rfl, rfl, .inl (.inl hH), rfl, k (.int b) (.dat (.int b)) B H μ I (Ex.refl B) (Dq.int _) (h b hb hb2)⟩
theorem ix_sc {a : Addr} {ns : List Int} {n : Int} (ha : atI ns i = some n) (h : R (.dat (.int n)) μ) : IxD X w (.sc X.K a ns) (.dat (.int i)) μ R := fun B H v u I q1 q2 Q k => by
  cases q2
  obtain ⟨rfl, sq⟩ := q1
  have e : atI (ns.map V.int) i = some (.int n) := by
    unfold atI at ha ⊢
    rw [List.length_map]
    cases hj : ixN ns.length i with
    | none => rw [hj] at ha; cases ha
    | some j =>
      rw [hj] at ha
      show (ns.map V.int)[j]? = _
      rw [List.getElem?_map, show ns[j]? = some n from ha]
      rfl
  refine sIx_of ix_list ⟨a, _, i, _, rfl, rfl, ?_, e, k (.int n) (.dat (.int n)) B H μ I (Ex.refl B) (Dq.int _) h⟩
  exact sq.elim (fun z => .inl (z.elim (fun q => .inl (I.bh _ _ q)) fun ⟨c, q⟩ => .inr ⟨c, I.bh _ _ q⟩)) .inr
theorem sl_dT {lo hi : Option Int} (h : R (.dat (.tup (cutD xs lo hi))) μ) : SlD X w (.dat (.tup xs)) lo hi μ R := fun B H v I q Q k => by
  cases q with
  | @tup a as _ ha hx =>
    refine sSl_of sl_tupA ⟨a, as, rfl, .inl (.inl (I.bh _ _ ha)), fun z => ?_, fun _ p hp => ?_⟩
    · have e : cutD xs lo hi = xs := by
        unfold cutD
        rw [← hx.length, z.1, z.2, List.drop_zero, Nat.sub_zero, hx.length, List.take_length]
      exact k _ (.dat (.tup (cutD xs lo hi))) B H μ I (Ex.refl B) (by rw [e]; exact Dq.tup ha hx) h
    · have f := (I.free hp).1
      exact k _ (.dat (.tup (cutD xs lo hi))) _ _ μ (I.new hp _) (Ex.new f) (Dq.tup upd_same ((hx.cut lo hi).mono (Ex.new f))) h
theorem sl_dS {lo hi : Option Int} (hl : x.length ≤ sizeLine) (h : R (.dat (.str (cutS x lo hi))) μ) : SlD X w (.dat (.str x)) lo hi μ R := fun B H v I q Q k => by
  cases q; exact sSl_of sl_str ⟨x, rfl, hl, k (.str _) (.dat (.str _)) B H μ I (Ex.refl B) (Dq.str _) h⟩

/-! ### built-ins -/
theorem SvA.one {B : Hp} {vs : List V} {r : SV} (h : SvA B vs [r]) : ∃ v, vs = [v] ∧ Svq B v r := by
  cases h with | cons a b => cases b; exact ⟨_, rfl, a⟩
theorem SvA.two {B : Hp} {vs : List V} {r s : SV} (h : SvA B vs [r, s]) : ∃ v u, vs = [v, u] ∧ Svq B v r ∧ Svq B u s := by
  cases h with | cons a b => cases b with | cons c d => cases d; exact ⟨_, _, rfl, a, c⟩
theorem ca_max2 (hc : X.calm = true) (h : R (.dat (.int (max i j))) μ) : CaD X w (.builtin "max") [.dat (.int i), .dat (.int j)] μ R := fun B H vs I q Q k => by
  obtain ⟨v, u, rfl, q1, q2⟩ := q.two
  cases q1; cases q2
  have e : (if j > i then j else i) = max i j := by omega
  exact sC_of (call_max2 hc) ⟨i, j, rfl, by rw [e]; exact k (.int _) (.dat (.int _)) B H μ I (Ex.refl B) (Dq.int _) h⟩
theorem ca_min2 (hc : X.calm = true) (h : R (.dat (.int (min i j))) μ) : CaD X w (.builtin "min") [.dat (.int i), .dat (.int j)] μ R := fun B H vs I q Q k => by
  obtain ⟨v, u, rfl, q1, q2⟩ := q.two
  cases q1; cases q2
  have e : (if j < i then j else i) = min i j := by omega
  exact sC_of (call_min2 hc) ⟨i, j, rfl, by rw [e]; exact k (.int _) (.dat (.int _)) B H μ I (Ex.refl B) (Dq.int _) h⟩
theorem ca_maxL {r : SV} {ns : List Int} (hc : X.calm = true) (h1 : LsQ r μ (ns.map Dt.int)) (h0 : 0 < ns.length) (h : ∀ m, m ∈ ns → (∀ y, y ∈ ns → y ≤ m) → R (.dat (.int m)) μ) : CaD X w (.builtin "max") [r] μ R := fun B H vs I q Q k => by
  obtain ⟨v, rfl, q1⟩ := q.one
  obtain ⟨a, as, rfl, ha, hx⟩ := ls_get I q1 h1
  have e := DqA.ints hx
  subst e
  exact sC_of (cr_max hc) ⟨a, ns, rfl, .inl (.inl ha), h0, fun m hm hle => k (.int m) (.dat (.int m)) B H μ I (Ex.refl B) (Dq.int _) (h m hm hle)⟩
theorem ca_lenL {r : SV} (h1 : LsQ r μ xs) (h : R (.dat (.int (xs.length : Int))) μ) : CaD X w (.builtin "len") [r] μ R := fun B H vs I q Q k => by
  obtain ⟨v, rfl, q1⟩ := q.one
  obtain ⟨a, as, rfl, ha, hx⟩ := ls_get I q1 h1
  exact sC_of call_len_seq ⟨a, as, rfl, .inl (.inl (.inl ha)), by rw [hx.length]; exact k (.int _) (.dat (.int _)) B H μ I (Ex.refl B) (Dq.int _) h⟩
theorem ca_lenT (h : R (.dat (.int (xs.length : Int))) μ) : CaD X w (.builtin "len") [.dat (.tup xs)] μ R := fun B H vs I q Q k => by
  obtain ⟨v, rfl, q1⟩ := q.one
  cases q1 with
  | @tup a as _ ha hx => exact sC_of call_len_seq ⟨a, as, rfl, .inr (.inl (.inl (I.bh _ _ ha))), by rw [hx.length]; exact k (.int _) (.dat (.int _)) B H μ I (Ex.refl B) (Dq.int _) h⟩
theorem ca_lenSc {a : Addr} {ns : List Int} (h : R (.dat (.int (ns.length : Int))) μ) : CaD X w (.builtin "len") [.sc X.K a ns] μ R := fun B H vs I q Q k => by
  obtain ⟨v, rfl, q1⟩ := q.one
  obtain ⟨rfl, sq⟩ := q1
  refine sC_of call_len_seq ⟨a, ns.map V.int, rfl, .inl ?_, by rw [show (ns.map V.int).length = ns.length from List.length_map _]; exact k (.int _) (.dat (.int _)) B H μ I (Ex.refl B) (Dq.int _) h⟩
  exact sq.elim (fun z => .inl (z.elim (fun q => .inl (I.bh _ _ q)) fun ⟨c, q⟩ => .inr ⟨c, I.bh _ _ q⟩)) .inr
theorem ca_lenS (hl : x.length ≤ sizeLine) (h : R (.dat (.int (x.length : Int))) μ) : CaD X w (.builtin "len") [.dat (.str x)] μ R := fun B H vs I q Q k => by
  obtain ⟨v, rfl, q1⟩ := q.one
  cases q1
  exact sC_of call_len_str ⟨x, rfl, hl, k (.int _) (.dat (.int _)) B H μ I (Ex.refl B) (Dq.int _) h⟩
theorem ca_all {r : SV} {bs : List Bool} (hc : X.calm = true) (h1 : LsQ r μ (bs.map Dt.bl)) (h : R (.dat (.bl (bs.all id))) μ) : CaD X w (.builtin "all") [r] μ R := fun B H vs I q Q k => by
  obtain ⟨v, rfl, q1⟩ := q.one
  obtain ⟨a, as, rfl, ha, hx⟩ := ls_get I q1 h1
  have e := DqA.bls hx
  subst e
  exact sC_of (cr_all hc) ⟨a, bs, rfl, .inl (.inl ha), k (.bl _) (.dat (.bl _)) B H μ I (Ex.refl B) (Dq.bl _) h⟩
theorem ca_listT (h : R (.dat (.lst xs)) μ) : CaD X w (.type "list") [.dat (.tup xs)] μ R := fun B H vs I q Q k => by
  obtain ⟨v, rfl, q1⟩ := q.one
  cases q1 with
  | @tup a as _ ha hx => exact sC_of call_list_of ⟨a, as, rfl, .inr (.inl (.inl (I.bh _ _ ha))), fun p hp => k (.ref p) (.dat (.lst xs)) _ _ μ (I.new hp _) (Ex.new (I.free hp).1) (Dq.lst upd_same (hx.mono (Ex.new (I.free hp).1))) h⟩
theorem ca_listL {r : SV} (h1 : LsQ r μ xs) (h : R (.dat (.lst xs)) μ) : CaD X w (.type "list") [r] μ R := fun B H vs I q Q k => by
  obtain ⟨v, rfl, q1⟩ := q.one
  obtain ⟨a, as, rfl, ha, hx⟩ := ls_get I q1 h1
  exact sC_of call_list_of ⟨a, as, rfl, .inl (.inl (.inl ha)), fun p hp => k (.ref p) (.dat (.lst xs)) _ _ μ (I.new hp _) (Ex.new (I.free hp).1) (Dq.lst upd_same (hx.mono (Ex.new (I.free hp).1))) h⟩
theorem ca_tupL {r : SV} (h1 : LsQ r μ xs) (h : R (.dat (.tup xs)) μ) : CaD X w (.type "tuple") [r] μ R := fun B H vs I q Q k => by
  obtain ⟨v, rfl, q1⟩ := q.one
  obtain ⟨a, as, rfl, ha, hx⟩ := ls_get I q1 h1
  exact sC_of call_tuple_of ⟨a, as, rfl, .inl ⟨.inl (.inl ha), fun p hp => k (.ref p) (.dat (.tup xs)) _ _ μ (I.new hp _) (Ex.new (I.free hp).1) (Dq.tup upd_same (hx.mono (Ex.new (I.free hp).1))) h⟩⟩
theorem ca_divmod (hj : 0 < j) (hj2 : j < 1073741824) (h : R (.dat (.tup [.int (i / j), .int (i % j)])) μ) : CaD X w (.builtin "divmod") [.dat (.int i), .dat (.int j)] μ R := fun B H vs I q Q k => by
  obtain ⟨v, u, rfl, q1, q2⟩ := q.two
  cases q1; cases q2
  exact sC_of call_divmod ⟨i, j, rfl, ⟨hj, hj2⟩, fun p hp => k (.ref p) (.dat (.tup [.int (i / j), .int (i % j)])) _ _ μ (I.new hp _) (Ex.new (I.free hp).1) (Dq.tup upd_same (DqA.ofInts [i / j, i % j])) h⟩

/-! ### isinstance -/
def tyD : Dt → String
  | .non => "NoneType" | .bl _ => "bool" | .int _ => "int" | .str _ => "str" | .lst _ => "list" | .tup _ => "tuple" | .dic _ _ => "dict" | .obj _ _ _ => ""
def isObj' : Dt → Bool
  | .obj _ _ _ => true
  | _ => false
def isStr : Dt → Bool
  | .str _ => true
  | _ => false
def isInt : Dt → Bool
  | .int _ => true
  | .bl _ => true
  | _ => false
def isBl : Dt → Bool
  | .bl _ => true
  | _ => false
def isTup : Dt → Bool
  | .tup _ => true
  | _ => false
def isLst : Dt → Bool
  | .lst _ => true
  | _ => false
def isDic : Dt → Bool
  | .dic _ _ => true
  | _ => false
theorem Dq.ty {K : PySem.W.Frag} {B H : Hp} (e : Ex B H) {v : V} {d : Dt} (q : Dq B v d) (h : isObj' d = false) : TyX K H v (.type (tyD d)) := by
  cases q with
  | non => exact .base .non
  | bl b => exact .base (.bl b)
  | int i => exact .base (.int i)
  | str x => exact .base (.str x)
  | lst ha _ => exact .base (.lst (e _ _ ha))
  | tup ha _ => exact .base (.tup (e _ _ ha))
  | dic ha _ => exact .base (.dK (e _ _ ha))
  | obj _ _ => cases h
theorem ca_isi {d : Dt} {T : String} {b : Bool} (ho : isObj' d = false) (hk : kitB (tyD d) T = some b) (h : R (.dat (.bl b)) μ) : CaD X w (.builtin "isinstance") [.dat d, .ty T] μ R := fun B H vs I q Q k => by
  obtain ⟨v, u, rfl, q1, q2⟩ := q.two
  cases (show u = V.ty T from q2)
  exact sC_of call_isi ⟨v, .ty T, _, _, b, rfl, .ty T, Dq.ty I.bh q1 ho, kit_ty hk, k (.bl b) (.dat (.bl b)) B H μ I (Ex.refl B) (Dq.bl _) h⟩
theorem kit_str (d : Dt) (h : isObj' d = false) : kitB (tyD d) "str" = some (isStr d) := by
  cases d with
  | obj _ _ _ => simp [isObj'] at h
  | non => exact (by decide +kernel : kitB "NoneType" "str" = some false)
  | bl _ => exact (by decide +kernel : kitB "bool" "str" = some false)
  | int _ => exact (by decide +kernel : kitB "int" "str" = some false)
  | str _ => exact (by decide +kernel : kitB "str" "str" = some true)
  | lst _ => exact (by decide +kernel : kitB "list" "str" = some false)
  | tup _ => exact (by decide +kernel : kitB "tuple" "str" = some false)
  | dic _ _ => exact (by decide +kernel : kitB "dict" "str" = some false)
theorem kit_int (d : Dt) (h : isObj' d = false) : kitB (tyD d) "int" = some (isInt d) := by
  cases d with
  | obj _ _ _ => simp [isObj'] at h
  | non => exact (by decide +kernel : kitB "NoneType" "int" = some false)
  | bl _ => exact (by decide +kernel : kitB "bool" "int" = some true)
  | int _ => exact (by decide +kernel : kitB "int" "int" = some true)
  | str _ => exact (by decide +kernel : kitB "str" "int" = some false)
  | lst _ => exact (by decide +kernel : kitB "list" "int" = some false)
  | tup _ => exact (by decide +kernel : kitB "tuple" "int" = some false)
  | dic _ _ => exact (by decide +kernel : kitB "dict" "int" = some false)
theorem kit_bool (d : Dt) (h : isObj' d = false) : kitB (tyD d) "bool" = some (isBl d) := by
  cases d with
  | obj _ _ _ => simp [isObj'] at h
  | non => exact (by decide +kernel : kitB "NoneType" "bool" = some false)
  | bl _ => exact (by decide +kernel : kitB "bool" "bool" = some true)
  | int _ => exact (by decide +kernel : kitB "int" "bool" = some false)
  | str _ => exact (by decide +kernel : kitB "str" "bool" = some false)
  | lst _ => exact (by decide +kernel : kitB "list" "bool" = some false)
  | tup _ => exact (by decide +kernel : kitB "tuple" "bool" = some false)
  | dic _ _ => exact (by decide +kernel : kitB "dict" "bool" = some false)
theorem kit_tuple (d : Dt) (h : isObj' d = false) : kitB (tyD d) "tuple" = some (isTup d) := by
  cases d with
  | obj _ _ _ => simp [isObj'] at h
  | non => exact (by decide +kernel : kitB "NoneType" "tuple" = some false)
  | bl _ => exact (by decide +kernel : kitB "bool" "tuple" = some false)
  | int _ => exact (by decide +kernel : kitB "int" "tuple" = some false)
  | str _ => exact (by decide +kernel : kitB "str" "tuple" = some false)
  | lst _ => exact (by decide +kernel : kitB "list" "tuple" = some false)
  | tup _ => exact (by decide +kernel : kitB "tuple" "tuple" = some true)
  | dic _ _ => exact (by decide +kernel : kitB "dict" "tuple" = some false)
theorem kit_list (d : Dt) (h : isObj' d = false) : kitB (tyD d) "list" = some (isLst d) := by
  cases d with
  | obj _ _ _ => simp [isObj'] at h
  | non => exact (by decide +kernel : kitB "NoneType" "list" = some false)
  | bl _ => exact (by decide +kernel : kitB "bool" "list" = some false)
  | int _ => exact (by decide +kernel : kitB "int" "list" = some false)
  | str _ => exact (by decide +kernel : kitB "str" "list" = some false)
  | lst _ => exact (by decide +kernel : kitB "list" "list" = some true)
  | tup _ => exact (by decide +kernel : kitB "tuple" "list" = some false)
  | dic _ _ => exact (by decide +kernel : kitB "dict" "list" = some false)
theorem kit_dict (d : Dt) (h : isObj' d = false) : kitB (tyD d) "dict" = some (isDic d) := by
  cases d with
  | obj _ _ _ => simp [isObj'] at h
  | non => exact (by decide +kernel : kitB "NoneType" "dict" = some false)
  | bl _ => exact (by decide +kernel : kitB "bool" "dict" = some false)
  | int _ => exact (by decide +kernel : kitB "int" "dict" = some false)
  | str _ => exact (by decide +kernel : kitB "str" "dict" = some false)
  | lst _ => exact (by decide +kernel : kitB "list" "dict" = some false)
  | tup _ => exact (by decide +kernel : kitB "tuple" "dict" = some false)
  | dic _ _ => exact (by decide +kernel : kitB "dict" "dict" = some true)
/-! ### methods -/
theorem ty_lst {K : PySem.W.Frag} {r : SV} (h1 : LsQ r μ xs) : TyD K "list" r μ := fun w B H v I q => by
  obtain ⟨a, as, rfl, ha, hx⟩ := ls_get I q h1
  exact .inl ⟨rfl, as, .inl (.inl ha)⟩
theorem ty_str {K : PySem.W.Frag} : TyD K "str" (.dat (.str x)) μ := fun w B H v I q => by cases q; rfl
theorem mt_appendM {p : Addr} {d : Dt} (hm : μ p = some (.lst xs)) (hl : xs.length < 100000) (h : R (.dat .non) (μ.put p (.lst (xs ++ [d])))) : MtD X w "list.append" (.at p) [.dat d] μ R := fun B H v vs I q qs Q k => by
  obtain ⟨u, rfl, q1⟩ := qs.one
  cases (show v = V.ref p from q)
  obtain ⟨_, ⟨as, ha, hx⟩, _⟩ := I.mus p _ hm
  exact sM_of mt_append ⟨p, as, u, rfl, rfl, ha, Nat.lt_of_lt_of_le (by rw [hx.length]; exact hl) (by decide : 100000 ≤ sizeLine),
    k .non (.dat .non) B _ _ (I.set hm (.lst (xs ++ [d])) ⟨as ++ [u], upd_same, hx.snoc q1⟩) (Ex.refl B) Dq.non h⟩
end
end Dat

set_option Elab.async false
set_option linter.all false
set_option maxRecDepth 100000
set_option maxHeartbeats 4000000
/-! Dat7: more methods of texts; the law's call at the top, where no repr is under way. -/
namespace Dat
open PySem PySem.Spec PyProof.Rows L2
section
variable {P : Program} {w : World} {K : PySem.W.Frag} {mg mb : Str → Option Value} {k : Nat} {fa a : Addr} {fd : FuncData} {x : Str} {sp : Sp} {s₁ : Shared} {vs : List Value} {ns : List Int}
theorem top_core (KX : K.In s₁.heap) (g : s₁.heap.Ns mainGlobals mg) (b : s₁.heap.Ns builtinsNs mb) (bb : ∀ x : Str, x ≠ "__name__" → mb x = bootBuiltins x) (lim : s₁.heap.NoLimit) (gn : s₁.gens = #[])
    (ha : s₁.heap.get? a = some { cls := .type "list", data := .seq vs.toArray }) (hr : Room k callerA)
    (F : ∀ base : Heap, K.In base → base.Ns mainGlobals mg → FnG P w K mg base k fa fd [x] sp) (bd : ∀ (s : Shared) (u : Value), BindsTo s fd ⟨[u], []⟩ [(x, u)])
    (H : Hp) (ok : HOk P w H s₁.heap) (own : ∀ c, H c ≠ none → c = a ∧ K.lookup a = none) (fz : ∀ c u, H c = some u → ∃ o xs, u = .frz o (.lst xs)) (q : sp [.ref a] H (fun v _ => v = .bl true) fun _ _ _ => False) :
    codeAny (model P w) callerA (.call (.ref fa) ⟨[.ref a], []⟩) (fun r s' => r = .ok (.ret (.bool true)) ∧ OldK s₁.heap s'.heap ∧ s'.os = s₁.os ∧ AllBare s'.gens) s₁ := by
  have free_of : ∀ {c : Addr} {o : Obj}, s₁.heap.get? c = some o → (∀ z n, o.data ≠ .seq z n) → H c = none := fun {c o} e nd => by
    cases z : H c with
    | none => rfl
    | some u =>
      have e2 := (own c (by rw [z]; exact nofun)).1
      rw [e2, ha] at e
      cases e
      exact absurd rfl (nd _ _)
  have nsB : ∀ {c : Addr} {m : Str → Option Value}, s₁.heap.Ns c m → (hidT s₁.heap H).Ns c m := fun {c m} n => by
    obtain ⟨o, es, ep, e, d, r⟩ := n
    exact ⟨o, es, ep, hidT_get e (free_of e fun z n => by rw [d]; exact nofun), d, r⟩
  have inB : K.In (hidT s₁.heap H) := fun c o e => hidT_get (KX c o e) (by
    cases z : H c with
    | none => rfl
    | some u =>
      obtain ⟨e2, e3⟩ := own c (by rw [z]; exact nofun)
      rw [e2, e3] at e
      cases e)
  have md : Mod K mg (hidT s₁.heap H) := by
    obtain ⟨mc, l1, l2⟩ := lim
    exact { kin := inB, glob := nsB g, blt := ⟨mb, nsB b, bb⟩, nolimit := ⟨mc, nsB l1, l2⟩ }
  have en : Env0 P w K mg (hidT s₁.heap H) callerA [] s₁ H := { frames := rfl, mod := md, bs := fun c o e => of_hidT e, bsz := Nat.le_of_eq (hidT_size _ _), funs := trivial, frf := fun c z => (by cases z), hok := ok, bare := .of_eq gn }
  refine codeAny_mono ((F _ inB (nsB g)).run callerA [] s₁ H ⟨[.ref a], []⟩ [.ref a] [.ref a] _ _ hr rfl en (bd s₁ (.ref a)) (.cons rfl .nil) q) fun r s' h => ?_
  match r, h with
  | .error _, h => exact h.elim
  | .ok .next, h => exact h.elim
  | .ok .brk, h => exact h.elim
  | .ok .cont, h => exact h.elim
  | .ok (.ret u), ⟨v, H', os, bare, un, hok', rv, qv⟩ =>
    cases (show v = V.bl true from qv)
    cases (show u = Value.bool true from rv)
    refine ⟨rfl, OldK.of_keep fun c o e => ?_, os, bare⟩
    cases z : H c with
    | none => exact un.keep c o e z (fun z => by cases z) (fun z => by cases z)
    | some y =>
      obtain ⟨ob, xs, rfl⟩ := fz c y z
      have e1 := (ok c _ z).1
      have e2 := (hok' c _ (un.frzs c ob _ z)).1
      rw [e] at e1
      cases e1
      exact e2
/-- the goal that k_head leaves -/
theorem walk_data {l : PySem.W.OpenLaw} {n : Nat} {q : Program} {loose : List Str} {XP : (Str → Option Value) → Heap → Prop} {YP : World → Heap → Prop} {d : DefRec} {KF : Params → PySem.W.Frag} {SP : PySem.W.Frag → Sp}
    (hn : l.most = some n) (hn2 : n ≤ sizeLine) (hdf : d.params.defaults = []) (hr : Room k callerA) (hY : ∀ (w : World) (h : Heap), YP w h → (KF w.params).In h)
    (F : ∀ (w : World) (mg : Str → Option Value) (fa : Addr) (h : Heap), (KF w.params).In h → h.Ns mainGlobals mg → mg d.name = some (.ref fa) →
      ∃ fd : FuncData, (∀ (s : Shared) (u : Value), BindsTo s fd ⟨[u], []⟩ [(x, u)]) ∧ ∀ base : Heap, (KF w.params).In base → base.Ns mainGlobals mg → FnG l.prog w (KF w.params) mg base k fa fd [x] (SP (KF w.params)))
    (hsp : ∀ (K : PySem.W.Frag) (H : Hp) (a : Addr) (ns : List Int), ns.length ≤ n → SqL K H a (ns.map V.int) → SP K [.ref a] H (fun v _ => v = .bl true) fun _ _ _ => False) :
    PySem.W.WalkO q loose XP YP l.row.toRowW d [] (fun f vs => PySem.call f vs) := by
  refine Att.attach_call hn hdf fun w s₀ s₁ mg mb fa o pm cd doc a vs ns G Y ho hd hcd hmg hobj hints hlen hg => ?_
  have KX := hY w _ Y
  obtain ⟨fd, bd, FF⟩ := F w mg fa _ KX G.T.g hmg
  have rv := vals_ints hints
  have hl : (ns.map V.int).length ≤ sizeLine := by rw [List.length_map]; exact Nat.le_trans hlen hn2
  cases hk : (KF w.params).lookup a with
  | some ob =>
    have e := KX a ob hk
    rw [hobj] at e
    cases e
    refine top_core KX G.T.g G.T.b G.T.builtins G.T.nolimit hg hobj hr FF bd (fun _ => none) (fun c u z => nomatch z) (fun c z => absurd rfl z) (fun c u z => nomatch z) (hsp _ _ a ns hlen (.inr ⟨_, vs.toArray, _, hk, rfl, rfl, rfl, ?_, by simpa using rv⟩))
    rw [List.size_toArray, ← rv.length]
    exact hl
  | none =>
    refine top_core KX G.T.g G.T.b G.T.builtins G.T.nolimit hg hobj hr FF bd (fun c => if c = a then some (.frz { cls := .type "list", data := .seq vs.toArray } (.lst (ns.map V.int))) else none) (fun c u z => ?_) (fun c z => ?_) (fun c u z => ?_) (hsp _ _ a ns hlen (.inl (.inr ⟨_, if_pos rfl⟩)))
    · by_cases e : c = a
      · have z' := (if_pos e).symm.trans z
        cases z'
        subst e
        exact ⟨hobj, hl, vs, _, rv, hobj⟩
      · have z' := (if_neg e).symm.trans z
        cases z'
    · by_cases e : c = a
      · exact ⟨e, hk⟩
      · exact absurd (if_neg e) z
    · by_cases e : c = a
      · have z' := (if_pos e).symm.trans z
        cases z'; exact ⟨_, _, rfl⟩
      · have z' := (if_neg e).symm.trans z
        cases z'
end
end Dat

set_option Elab.async false
set_option linter.all false
set_option maxRecDepth 100000
set_option maxHeartbeats 4000000
/-! Dat8: names by themselves, built-ins by their names, own defs packed. -/
namespace Dat
open PySem PySem.Spec PyProof.Rows L2
def idx : List Str → Str → Nat
  | [], _ => 0
  | y :: ys, x => if x = y then 0 else idx ys x + 1
section
variable {X : Cx} {w : Wd} {ρ : List SV} {μ : Mus} {R : SV → Mus → Prop} {e : Expr} {es : List Expr} {pos p : Pos} {x : Str}
theorem de_nm {r : SV} (hr : ρ[idx X.N x]? = some r) (h : R r μ) (hne : r ≠ .no := by exact nofun) (hN : X.N[idx X.N x]? = some x := by rfl)
    (hv : Vis X.env.scope x := by first | exact Or.inl rfl | exact Or.inr (Or.inl rfl) | exact Or.inr (Or.inr rfl)) (hd : (x == ("__debug__" : Str)) = false := by decide)
    (hcd : (x == ("__classdict__" : Str)) = false := by decide) : DE X w (.Name x pos) ρ μ R := de_name (idx X.N x) hr h hne hN hv hd hcd
/-- a built-in class as a value -/
theorem de_tyv {T : String} (hm : X.mg x = none) (hv : bootBuiltins x = some (.type T)) (h : R (.ty T) μ) (hg : Gl X x := by rfl) (hn : x ≠ "__name__" := by decide) (hd : (x == ("__debug__" : Str)) = false := by decide) : DE X w (.Name x pos) ρ μ R := fun σ B H _ I Q k =>
  tE_of (pe_bltn (v := .ty T) hg hm hv rfl hn hd) (k (.ty T) (.ty T) B H μ I (Ex.refl B) rfl h)
theorem de_ty_int (hm : X.mg "int" = none) (h : R (.ty "int") μ) (hg : Gl X "int" := by rfl) : DE X w (.Name "int" pos) ρ μ R := de_tyv hm (by decide +kernel) h hg
theorem de_ty_str (hm : X.mg "str" = none) (h : R (.ty "str") μ) (hg : Gl X "str" := by rfl) : DE X w (.Name "str" pos) ρ μ R := de_tyv hm (by decide +kernel) h hg
theorem de_ty_bool (hm : X.mg "bool" = none) (h : R (.ty "bool") μ) (hg : Gl X "bool" := by rfl) : DE X w (.Name "bool" pos) ρ μ R := de_tyv hm (by decide +kernel) h hg
theorem de_ty_tuple (hm : X.mg "tuple" = none) (h : R (.ty "tuple") μ) (hg : Gl X "tuple" := by rfl) : DE X w (.Name "tuple" pos) ρ μ R := de_tyv hm (by decide +kernel) h hg
theorem de_ty_list (hm : X.mg "list" = none) (h : R (.ty "list") μ) (hg : Gl X "list" := by rfl) : DE X w (.Name "list" pos) ρ μ R := de_tyv hm (by decide +kernel) h hg
theorem de_ty_dict (hm : X.mg "dict" = none) (h : R (.ty "dict") μ) (hg : Gl X "dict" := by rfl) : DE X w (.Name "dict" pos) ρ μ R := de_tyv hm (by decide +kernel) h hg
theorem de_isinstance (ha : DA X w (e :: es) ρ μ fun rs μ1 => CaD X w (.builtin "isinstance") rs μ1 R) (hm : X.mg "isinstance" = none) (hg : Gl X "isinstance" := by rfl)
    (he : starEach (e :: es) X.env = (false, eval e X.env) :: starEach es X.env := by rfl) (hpl : (backTo pos (starEach es X.env)).any (·.1) = false := by rfl) : DE X w (.Call (.Name "isinstance" p) (e :: es) [] pos) ρ μ R :=
  de_callB ha hm (by decide +kernel) hg (by decide) (by decide) he hpl
theorem de_len (ha : DA X w (e :: es) ρ μ fun rs μ1 => CaD X w (.builtin "len") rs μ1 R) (hm : X.mg "len" = none) (hg : Gl X "len" := by rfl)
    (he : starEach (e :: es) X.env = (false, eval e X.env) :: starEach es X.env := by rfl) (hpl : (backTo pos (starEach es X.env)).any (·.1) = false := by rfl) : DE X w (.Call (.Name "len" p) (e :: es) [] pos) ρ μ R :=
  de_callB ha hm (by decide +kernel) hg (by decide) (by decide) he hpl
theorem de_max (ha : DA X w (e :: es) ρ μ fun rs μ1 => CaD X w (.builtin "max") rs μ1 R) (hm : X.mg "max" = none) (hg : Gl X "max" := by rfl)
    (he : starEach (e :: es) X.env = (false, eval e X.env) :: starEach es X.env := by rfl) (hpl : (backTo pos (starEach es X.env)).any (·.1) = false := by rfl) : DE X w (.Call (.Name "max" p) (e :: es) [] pos) ρ μ R :=
  de_callB ha hm (by decide +kernel) hg (by decide) (by decide) he hpl
theorem de_min (ha : DA X w (e :: es) ρ μ fun rs μ1 => CaD X w (.builtin "min") rs μ1 R) (hm : X.mg "min" = none) (hg : Gl X "min" := by rfl)
    (he : starEach (e :: es) X.env = (false, eval e X.env) :: starEach es X.env := by rfl) (hpl : (backTo pos (starEach es X.env)).any (·.1) = false := by rfl) : DE X w (.Call (.Name "min" p) (e :: es) [] pos) ρ μ R :=
  de_callB ha hm (by decide +kernel) hg (by decide) (by decide) he hpl
theorem de_all (ha : DA X w (e :: es) ρ μ fun rs μ1 => CaD X w (.builtin "all") rs μ1 R) (hm : X.mg "all" = none) (hg : Gl X "all" := by rfl)
    (he : starEach (e :: es) X.env = (false, eval e X.env) :: starEach es X.env := by rfl) (hpl : (backTo pos (starEach es X.env)).any (·.1) = false := by rfl) : DE X w (.Call (.Name "all" p) (e :: es) [] pos) ρ μ R :=
  de_callB ha hm (by decide +kernel) hg (by decide) (by decide) he hpl
theorem de_any (ha : DA X w (e :: es) ρ μ fun rs μ1 => CaD X w (.builtin "any") rs μ1 R) (hm : X.mg "any" = none) (hg : Gl X "any" := by rfl)
    (he : starEach (e :: es) X.env = (false, eval e X.env) :: starEach es X.env := by rfl) (hpl : (backTo pos (starEach es X.env)).any (·.1) = false := by rfl) : DE X w (.Call (.Name "any" p) (e :: es) [] pos) ρ μ R :=
  de_callB ha hm (by decide +kernel) hg (by decide) (by decide) he hpl
theorem de_repr (ha : DA X w (e :: es) ρ μ fun rs μ1 => CaD X w (.builtin "repr") rs μ1 R) (hm : X.mg "repr" = none) (hg : Gl X "repr" := by rfl)
    (he : starEach (e :: es) X.env = (false, eval e X.env) :: starEach es X.env := by rfl) (hpl : (backTo pos (starEach es X.env)).any (·.1) = false := by rfl) : DE X w (.Call (.Name "repr" p) (e :: es) [] pos) ρ μ R :=
  de_callB ha hm (by decide +kernel) hg (by decide) (by decide) he hpl
theorem de_divmod (ha : DA X w (e :: es) ρ μ fun rs μ1 => CaD X w (.builtin "divmod") rs μ1 R) (hm : X.mg "divmod" = none) (hg : Gl X "divmod" := by rfl)
    (he : starEach (e :: es) X.env = (false, eval e X.env) :: starEach es X.env := by rfl) (hpl : (backTo pos (starEach es X.env)).any (·.1) = false := by rfl) : DE X w (.Call (.Name "divmod" p) (e :: es) [] pos) ρ μ R :=
  de_callB ha hm (by decide +kernel) hg (by decide) (by decide) he hpl
theorem de_sorted (ha : DA X w (e :: es) ρ μ fun rs μ1 => CaD X w (.builtin "sorted") rs μ1 R) (hm : X.mg "sorted" = none) (hg : Gl X "sorted" := by rfl)
    (he : starEach (e :: es) X.env = (false, eval e X.env) :: starEach es X.env := by rfl) (hpl : (backTo pos (starEach es X.env)).any (·.1) = false := by rfl) : DE X w (.Call (.Name "sorted" p) (e :: es) [] pos) ρ μ R :=
  de_callB ha hm (by decide +kernel) hg (by decide) (by decide) he hpl
theorem de_sum (ha : DA X w (e :: es) ρ μ fun rs μ1 => CaD X w (.builtin "sum") rs μ1 R) (hm : X.mg "sum" = none) (hg : Gl X "sum" := by rfl)
    (he : starEach (e :: es) X.env = (false, eval e X.env) :: starEach es X.env := by rfl) (hpl : (backTo pos (starEach es X.env)).any (·.1) = false := by rfl) : DE X w (.Call (.Name "sum" p) (e :: es) [] pos) ρ μ R :=
  de_callB ha hm (by decide +kernel) hg (by decide) (by decide) he hpl
theorem de_clist (ha : DA X w (e :: es) ρ μ fun rs μ1 => CaD X w (.type "list") rs μ1 R) (hm : X.mg "list" = none) (hg : Gl X "list" := by rfl)
    (he : starEach (e :: es) X.env = (false, eval e X.env) :: starEach es X.env := by rfl) (hpl : (backTo pos (starEach es X.env)).any (·.1) = false := by rfl) : DE X w (.Call (.Name "list" p) (e :: es) [] pos) ρ μ R :=
  de_callT ha hm (by decide +kernel) hg (by decide) (by decide) he hpl
theorem de_ctuple (ha : DA X w (e :: es) ρ μ fun rs μ1 => CaD X w (.type "tuple") rs μ1 R) (hm : X.mg "tuple" = none) (hg : Gl X "tuple" := by rfl)
    (he : starEach (e :: es) X.env = (false, eval e X.env) :: starEach es X.env := by rfl) (hpl : (backTo pos (starEach es X.env)).any (·.1) = false := by rfl) : DE X w (.Call (.Name "tuple" p) (e :: es) [] pos) ρ μ R :=
  de_callT ha hm (by decide +kernel) hg (by decide) (by decide) he hpl
theorem de_cint (ha : DA X w (e :: es) ρ μ fun rs μ1 => CaD X w (.type "int") rs μ1 R) (hm : X.mg "int" = none) (hg : Gl X "int" := by rfl)
    (he : starEach (e :: es) X.env = (false, eval e X.env) :: starEach es X.env := by rfl) (hpl : (backTo pos (starEach es X.env)).any (·.1) = false := by rfl) : DE X w (.Call (.Name "int" p) (e :: es) [] pos) ρ μ R :=
  de_callT ha hm (by decide +kernel) hg (by decide) (by decide) he hpl
theorem de_cstr (ha : DA X w (e :: es) ρ μ fun rs μ1 => CaD X w (.type "str") rs μ1 R) (hm : X.mg "str" = none) (hg : Gl X "str" := by rfl)
    (he : starEach (e :: es) X.env = (false, eval e X.env) :: starEach es X.env := by rfl) (hpl : (backTo pos (starEach es X.env)).any (·.1) = false := by rfl) : DE X w (.Call (.Name "str" p) (e :: es) [] pos) ρ μ R :=
  de_callT ha hm (by decide +kernel) hg (by decide) (by decide) he hpl
theorem de_cdict (ha : DA X w (e :: es) ρ μ fun rs μ1 => CaD X w (.type "dict") rs μ1 R) (hm : X.mg "dict" = none) (hg : Gl X "dict" := by rfl)
    (he : starEach (e :: es) X.env = (false, eval e X.env) :: starEach es X.env := by rfl) (hpl : (backTo pos (starEach es X.env)).any (·.1) = false := by rfl) : DE X w (.Call (.Name "dict" p) (e :: es) [] pos) ρ μ R :=
  de_callT ha hm (by decide +kernel) hg (by decide) (by decide) he hpl
theorem de_cbool (ha : DA X w (e :: es) ρ μ fun rs μ1 => CaD X w (.type "bool") rs μ1 R) (hm : X.mg "bool" = none) (hg : Gl X "bool" := by rfl)
    (he : starEach (e :: es) X.env = (false, eval e X.env) :: starEach es X.env := by rfl) (hpl : (backTo pos (starEach es X.env)).any (·.1) = false := by rfl) : DE X w (.Call (.Name "bool" p) (e :: es) [] pos) ρ μ R :=
  de_callT ha hm (by decide +kernel) hg (by decide) (by decide) he hpl
end

/-! ### own defs -/
theorem undat_len : ∀ {rs : List SV} {ds : List Dt}, undat rs = some ds → rs.length = ds.length
  | [], _, e => by cases e; rfl
  | r :: rs, ds, e => by
    cases r with
    | no => cases e
    | «at» p => cases e
    | ty n => cases e
    | sc K a ns => cases e
    | dat d =>
      unfold undat at e
      cases e2 : undat rs with
      | none => rw [e2] at e; cases e
      | some ds' => rw [e2] at e; cases e; rw [List.length_cons, List.length_cons, undat_len e2]
theorem undat_map : ∀ {rs : List SV} {ds : List Dt}, undat rs = some ds → rs = ds.map SV.dat
  | [], _, e => by cases e; rfl
  | r :: rs, ds, e => by
    cases r with
    | no => cases e
    | «at» p => cases e
    | ty n => cases e
    | sc K a ns => cases e
    | dat d =>
      unfold undat at e
      cases e2 : undat rs with
      | none => rw [e2] at e; cases e
      | some ds' => rw [e2] at e; cases e; rw [List.map_cons, ← undat_map e2]
/-- a pure def: of data, data -/
def PSp (ok : List Dt → Prop) (res : List Dt → Dt → Prop) : Sp := GSp (fun rs _ => ∃ ds, undat rs = some ds ∧ ok ds) (fun rs μ r μ' => ∀ ds, undat rs = some ds → ∃ d, r = .dat d ∧ res ds d ∧ μ' = μ)
/-- one that draws from the pot -/
def QSp (ok : List Dt → Prop) (res : List Dt → Dt → Prop) : Sp := GSp (fun rs μ => ∃ p rs' ds, rs = .at p :: rs' ∧ undat rs' = some ds ∧ μ p = some .pot ∧ ok ds) (fun rs μ r μ' => ∀ p rs' ds, rs = .at p :: rs' → undat rs' = some ds → ∃ d, r = .dat d ∧ res ds d ∧ μ' = μ)
structure Own (P : Program) (w : World) (K : PySem.W.Frag) (mg : Str → Option Value) (base : Heap) (x : Str) (k : Nat) (sp : Sp) : Prop where
  ex : ∃ f fd ps, FnG P w K mg base k f fd ps sp ∧ mg x = some (.ref f) ∧ PySem.W.keepIn K (.ref f) = true ∧ Binds K fd ps []
section
variable {P : Program} {wd : World} {K : PySem.W.Frag} {mg : Str → Option Value} {base : Heap} {x qual : Str} {st : Stmt} {f : Addr} {fd : FuncData} {N ps : List Str} {k : Nat}
theorem fn_pure {ok : List Dt → Prop} {res : List Dt → Dt → Prop} (F : Fun K x qual st f fd) (S : FnScope N ps (defScope st)) (hl : ∀ ds, ok ds → ds.length = ps.length)
    (body : ∀ (cdv : Value) (A : Around) (outer : List Env) (s : Shared) (H : Hp), Room k (bx P wd K mg base N qual st f cdv A outer s H).A → (bx P wd K mg base N qual st f cdv A outer s H).A.guards = some [] → ∀ w ds μ, ok ds →
      DSs (bx P wd K mg base N qual st f cdv A outer s H) w (defBody st) (ds.map SV.dat ++ List.replicate (N.length - (ds.map SV.dat).length) .no) μ { nx := fun _ _ => False, rt := fun r μ' => ∃ d, r = .dat d ∧ res ds d ∧ μ.Sub μ' }) :
    FnG P wd K mg base (k + 1) f fd ps (PSp ok res) := by
  refine fn_ok F S (fun rs μ ⟨ds, e, h⟩ => by rw [undat_len e]; exact hl ds h) fun cdv A outer s H hr hg w rs μ ⟨ds, e, h⟩ => ?_
  have b := body cdv A outer s H hr hg w ds μ h
  rw [← undat_map e] at b
  intro σ B H' S' I D E
  refine b σ B H' S' I D ⟨fun _ _ _ _ _ _ _ _ z => z.elim, fun v r B2 H2 μ2 I2 e2 q ⟨d, h1, h2, h3⟩ => E.rt v r B2 H2 μ2 I2 e2 q ⟨μ, h3, fun ds' e' => ?_⟩, E.bk, E.ct⟩
  rw [e] at e'
  cases e'
  exact ⟨d, h1, h2, rfl⟩
theorem fn_pot {ok : List Dt → Prop} {res : List Dt → Dt → Prop} (F : Fun K x qual st f fd) (S : FnScope N ps (defScope st)) (hl : ∀ ds, ok ds → ds.length + 1 = ps.length)
    (body : ∀ (cdv : Value) (A : Around) (outer : List Env) (s : Shared) (H : Hp), Room k (bx P wd K mg base N qual st f cdv A outer s H).A → (bx P wd K mg base N qual st f cdv A outer s H).A.guards = some [] → ∀ w p ds μ, μ p = some .pot → ok ds →
      DSs (bx P wd K mg base N qual st f cdv A outer s H) w (defBody st) (.at p :: ds.map SV.dat ++ List.replicate (N.length - (.at p :: ds.map SV.dat).length) .no) μ { nx := fun _ _ => False, rt := fun r μ' => ∃ d, r = .dat d ∧ res ds d ∧ μ.Sub μ' }) :
    FnG P wd K mg base (k + 1) f fd ps (QSp ok res) := by
  refine fn_ok F S (fun rs μ ⟨p, rs', ds, e0, e, _, h⟩ => by rw [e0, List.length_cons, undat_len e]; exact hl ds h) fun cdv A outer s H hr hg w rs μ ⟨p, rs', ds, e0, e, hm, h⟩ => ?_
  have b := body cdv A outer s H hr hg w p ds μ hm h
  rw [← undat_map e, ← e0] at b
  intro σ B H' S' I D E
  refine b σ B H' S' I D ⟨fun _ _ _ _ _ _ _ _ z => z.elim, fun v r B2 H2 μ2 I2 e2 q ⟨d, h1, h2, h3⟩ => E.rt v r B2 H2 μ2 I2 e2 q ⟨μ, h3, fun p' rs2 ds' e3 e' => ?_⟩, E.bk, E.ct⟩
  rw [e0] at e3
  cases e3
  rw [e] at e'
  cases e'
  exact ⟨d, h1, h2, rfl⟩
end
section
variable {X : Cx} {w : Wd} {ρ : List SV} {μ : Mus} {R : SV → Mus → Prop} {e : Expr} {es : List Expr} {x : Str} {p pos : Pos} {k j : Nat}
theorem de_own {pre : List SV → Mus → Prop} {post : List SV → Mus → SV → Mus → Prop} (O : Own X.prog X.w X.K X.mg X.base x k (GSp pre post)) (hr : Room j X.A) (hkj : k ≤ j) (hgd : X.A.guards = some [])
    (ha : DA X w (e :: es) ρ μ fun rs μ1 => pre rs μ1 ∧ ∀ r μ2, post rs μ1 r μ2 → R r μ2) (hg : Gl X x := by rfl) (hdb : (x == ("__debug__" : Str)) = false := by decide)
    (he : starEach (e :: es) X.env = (false, eval e X.env) :: starEach es X.env := by rfl) (hpl : (backTo pos (starEach es X.env)).any (·.1) = false := by rfl) : DE X w (.Call (.Name x p) (e :: es) [] pos) ρ μ R := by
  obtain ⟨f, fd, ps, F, hm, hk, hb⟩ := O.ex
  exact de_call F (hr.mono hkj) hgd hm hk hb ha hg hdb he hpl
theorem DA.imp {T T' : List SV → Mus → Prop} (h : DA X w es ρ μ T') (k : ∀ rs μ', T' rs μ' → T rs μ') : DA X w es ρ μ T := fun σ B H S I Q q => h σ B H S I Q fun vs rs B' H' μ' I' e' s' z => q vs rs B' H' μ' I' e' s' (k rs μ' z)
theorem de_pure {ok : List Dt → Prop} {res : List Dt → Dt → Prop} (O : Own X.prog X.w X.K X.mg X.base x k (PSp ok res)) (hr : Room j X.A) (hkj : k ≤ j) (hgd : X.A.guards = some [])
    (ha : DA X w (e :: es) ρ μ fun rs μ1 => ∃ ds, undat rs = some ds ∧ ok ds ∧ ∀ d, res ds d → R (.dat d) μ1) (hg : Gl X x := by rfl) (hdb : (x == ("__debug__" : Str)) = false := by decide)
    (he : starEach (e :: es) X.env = (false, eval e X.env) :: starEach es X.env := by rfl) (hpl : (backTo pos (starEach es X.env)).any (·.1) = false := by rfl) : DE X w (.Call (.Name x p) (e :: es) [] pos) ρ μ R :=
  de_own O hr hkj hgd (ha.imp fun rs μ1 ⟨ds, h1, h2, h3⟩ => ⟨⟨ds, h1, h2⟩, fun r μ2 q => by
    obtain ⟨d, rfl, h4, rfl⟩ := q ds h1
    exact h3 d h4⟩) hg hdb he hpl
theorem de_pot {ok : List Dt → Prop} {res : List Dt → Dt → Prop} (O : Own X.prog X.w X.K X.mg X.base x k (QSp ok res)) (hr : Room j X.A) (hkj : k ≤ j) (hgd : X.A.guards = some [])
    (ha : DA X w (e :: es) ρ μ fun rs μ1 => ∃ q rs' ds, rs = .at q :: rs' ∧ undat rs' = some ds ∧ μ1 q = some .pot ∧ ok ds ∧ ∀ d, res ds d → R (.dat d) μ1) (hg : Gl X x := by rfl) (hdb : (x == ("__debug__" : Str)) = false := by decide)
    (he : starEach (e :: es) X.env = (false, eval e X.env) :: starEach es X.env := by rfl) (hpl : (backTo pos (starEach es X.env)).any (·.1) = false := by rfl) : DE X w (.Call (.Name x p) (e :: es) [] pos) ρ μ R :=
  de_own O hr hkj hgd (ha.imp fun rs μ1 ⟨p, rs', ds, h0, h1, hm, h2, h3⟩ => ⟨⟨p, rs', ds, h0, h1, hm, h2⟩, fun r μ2 q => by
    obtain ⟨d, rfl, h4, rfl⟩ := q p rs' ds h0 h1
    exact h3 d h4⟩) hg hdb he hpl
end
end Dat

set_option Elab.async false
set_option linter.all false
set_option maxRecDepth 100000
set_option maxHeartbeats 4000000
/-! Dat9: data of bounded size may be shown. -/
namespace Dat
open PySem PySem.Spec PyProof.Rows L2
theorem textFrom_le : ∀ (ts : List Str) (k : Nat) (acc : Str), (textFrom k acc ts).length ≤ acc.length + piled ts
  | [], k, acc => by simp [textFrom, piled]
  | t :: r, k, acc => by
    have ih := textFrom_le r (k + 1) (acc ++ (if k > 0 then ", " else "" : String) ++ t)
    have e : (acc ++ (if k > 0 then ", " else "" : String) ++ t).length ≤ acc.length + 2 + t.length := by
      rw [strLen_append, strLen_append]
      have : ((if k > 0 then ", " else "" : String) : Str).length ≤ 2 := by split <;> decide
      omega
    have p : piled (t :: r) = t.length + 2 + piled r := by simp [piled]
    show (textFrom (k + 1) _ r).length ≤ _
    rw [p]; omega
theorem listText_le (ts : List Str) : (listText ts).length ≤ piled ts + 2 := by
  unfold listText
  rw [strLen_append]
  have h := textFrom_le ts 0 "["
  have e1 : (("[" : String) : Str).length = 1 := rfl
  have e2 : (("]" : String) : Str).length = 1 := rfl
  rw [e1] at h; rw [e2]; omega
theorem join_le (ts : List Str) : (Str.join ", " ts).length ≤ piled ts := by
  by_cases h : ts = []
  · subst h; decide
  · have := join_length_add ts h; omega
theorem tupleText_le (ts : List Str) : (tupleText ts).length ≤ piled ts + 3 := by
  unfold tupleText
  rw [strLen_append, strLen_append]
  have h := join_le ts
  have e1 : (("(" : String) : Str).length = 1 := rfl
  have e2 : ((if ts.length == 1 then ",)" else ")" : String) : Str).length ≤ 2 := by split <;> decide
  rw [e1]; omega
theorem dictText_le (ts : List Str) : (dictText ts).length ≤ piled ts + 2 := by
  unfold dictText
  rw [strLen_append, strLen_append]
  have h := join_le ts
  have e1 : (("{" : String) : Str).length = 1 := rfl
  have e2 : (("}" : String) : Str).length = 1 := rfl
  rw [e1, e2]; omega
theorem piled_le {L : Nat} : ∀ (ts : List Str), (∀ t ∈ ts, t.length ≤ L) → piled ts ≤ ts.length * (L + 2)
  | [], _ => by simp [piled]
  | t :: r, h => by
    have ih := piled_le r fun u hu => h u (List.mem_cons_of_mem _ hu)
    have p : piled (t :: r) = t.length + 2 + piled r := by simp [piled]
    have := h t List.mem_cons_self
    rw [p, List.length_cons, Nat.succ_mul]; omega
theorem reprChar_le (q c : Nat) (hq : q = 34 ∨ q = 39) (hc : c < 256) : (Builtin.Str.reprChar q c).length ≤ 4 := by
  have h : ∀ c : Fin 256, (Builtin.Str.reprChar 34 c.val).length ≤ 4 ∧ (Builtin.Str.reprChar 39 c.val).length ≤ 4 := by decide +kernel
  rcases hq with rfl | rfl
  · exact (h ⟨c, hc⟩).1
  · exact (h ⟨c, hc⟩).2
theorem reprText_le (x : Str) (h : ∀ c ∈ x.cps.toList, c < 256) : (reprText x).length ≤ 4 * x.length + 2 := by
  rw [← reprLen_eq, ← Array.foldl_toList]
  have hq : reprQuote x = 34 ∨ reprQuote x = 39 := by unfold reprQuote; split <;> simp
  have : ∀ (l : List Nat) (n : Nat), (∀ c ∈ l, c < 256) → l.foldl (fun n c => n + (Builtin.Str.reprChar (reprQuote x) c).length) n ≤ n + 4 * l.length := by
    intro l
    induction l with
    | nil => intro n _; simp
    | cons c l ih =>
      intro n hl
      have h1 := ih (n + (Builtin.Str.reprChar (reprQuote x) c).length) fun d hd => hl d (List.mem_cons_of_mem _ hd)
      have h2 := reprChar_le (reprQuote x) c hq (hl c List.mem_cons_self)
      rw [List.foldl_cons, List.length_cons]; omega
  have z := this x.cps.toList 2 h
  have e : x.cps.toList.length = x.length := by rw [Array.length_toList]; rfl
  rw [e] at z; omega
/-- of bounded size: texts of S signs, M items, so deep -/
def fine (S M : Nat) : Nat → Dt → Prop
  | _, .non => True
  | _, .bl _ => True
  | _, .int i => i.natAbs < 10 ^ 30
  | _, .str x => x.length ≤ S ∧ ∀ c ∈ x.cps.toList, c < 256
  | n + 1, .lst xs => xs.length ≤ M ∧ ∀ d, d ∈ xs → fine S M n d
  | n + 1, .tup xs => xs.length ≤ M ∧ ∀ d, d ∈ xs → fine S M n d
  | n + 1, .dic ks vs => ks.length ≤ 4 ∧ (∀ d, d ∈ ks → fine S M n d) ∧ ∀ d, d ∈ vs → fine S M n d
  | _, _ => False
def fineL (S M : Nat) : Nat → Nat
  | 0 => 4 * S + 40
  | n + 1 => (M + 8) * (fineL S M n + 4) + 3
theorem fine_int {S M : Nat} {i : Int} : ∀ n, i.natAbs < 10 ^ 30 → fine S M n (.int i)
  | 0, h => h
  | _ + 1, h => h
theorem fine_str {S M : Nat} {x : Str} : ∀ n, (x.length ≤ S ∧ ∀ c ∈ x.cps.toList, c < 256) → fine S M n (.str x)
  | 0, h => h
  | _ + 1, h => h
theorem fine_non {S M : Nat} : ∀ n, fine S M n .non
  | 0 => trivial
  | _ + 1 => trivial
theorem fine_bl {S M : Nat} {b : Bool} : ∀ n, fine S M n (.bl b)
  | 0 => trivial
  | _ + 1 => trivial
theorem fine_up {S M : Nat} : ∀ (n : Nat) (d : Dt), fine S M n d → fine S M (n + 1) d
  | _, .non, _ => trivial
  | _, .bl _, _ => trivial
  | 0, .int _, h => h
  | _ + 1, .int _, h => h
  | 0, .str _, h => h
  | _ + 1, .str _, h => h
  | n + 1, .lst xs, h => ⟨h.1, fun d hd => fine_up n d (h.2 d hd)⟩
  | n + 1, .tup xs, h => ⟨h.1, fun d hd => fine_up n d (h.2 d hd)⟩
  | n + 1, .dic ks vs, h => ⟨h.1, fun d hd => fine_up n d (h.2.1 d hd), fun d hd => fine_up n d (h.2.2 d hd)⟩
  | 0, .lst _, h => h.elim
  | 0, .tup _, h => h.elim
  | 0, .dic _ _, h => h.elim
  | 0, .obj _ _ _, h => h.elim
  | _ + 1, .obj _ _ _, h => h.elim
theorem shownAll_map : ∀ ds : List PyData, PyData.shownAll ds = ds.map PyData.shown
  | [] => by simp [PyData.shownAll]
  | d :: ds => by simp [PyData.shownAll, shownAll_map ds]
theorem fineL_scal (S M n : Nat) : 4 * S + 40 ≤ fineL S M n := by
  induction n with
  | zero => exact Nat.le_refl _
  | succ n ih =>
    show _ ≤ (M + 8) * (fineL S M n + 4) + 3
    have : fineL S M n + 4 ≤ (M + 8) * (fineL S M n + 4) := Nat.le_mul_of_pos_left _ (by omega)
    omega
theorem int_len {i : Int} (h : i.natAbs < 10 ^ 30) : (Str.ofString (toString i)).length ≤ 31 := by
  rw [PySem.ofString_length]
  exact int_text_length_le10 (k := 30) (by decide) h
theorem zip_kv : ∀ (ks vs : List PyData), PyData.shownKv (ks.zip vs) = (ks.zip vs).map fun kv => (kv.1.shown ++ ((": " : String) : Str) ++ kv.2.shown : Str)
  | [], _ => by simp [PyData.shownKv]
  | _ :: _, [] => by simp [PyData.shownKv]
  | k :: ks, v :: vs => by simp [PyData.shownKv, zip_kv ks vs]
theorem fine_len {S M : Nat} : ∀ (n : Nat) (d : Dt), fine S M n d → (toPy d).shown.length ≤ fineL S M n
  | n, .non, _ => by
    have := fineL_scal S M n
    simp only [toPy, PyData.shown]
    have e : (("None" : String) : Str).length = 4 := rfl
    rw [e]; omega
  | n, .bl b, _ => by
    have := fineL_scal S M n
    simp only [toPy, PyData.shown]
    have e : ((if b then "True" else "False" : String) : Str).length ≤ 5 := by cases b <;> decide
    cases b
    · have e : (("False" : String) : Str).length = 5 := rfl
      simp only [Bool.false_eq_true, if_false]
      rw [e]; omega
    · have e : (("True" : String) : Str).length = 4 := rfl
      simp only [if_true]
      rw [e]; omega
  | n, .int i, h => by
    have := fineL_scal S M n
    have h' : i.natAbs < 10 ^ 30 := by cases n <;> exact h
    simp only [toPy, PyData.shown]
    have := int_len h'
    omega
  | n, .str x, h => by
    have := fineL_scal S M n
    have h' : x.length ≤ S ∧ ∀ c ∈ x.cps.toList, c < 256 := by cases n <;> exact h
    simp only [toPy, PyData.shown]
    have := reprText_le x h'.2
    omega
  | n + 1, .lst xs, h => by
    simp only [toPy, PyData.shown, toPyA_map, shownAll_map, List.map_map]
    have q := piled_le (L := fineL S M n) (xs.map (PyData.shown ∘ toPy)) fun t ht => by
      obtain ⟨d, hd, rfl⟩ := List.mem_map.mp ht
      exact fine_len n d (h.2 d hd)
    have z := listText_le (xs.map (PyData.shown ∘ toPy))
    rw [List.length_map] at q
    have m := Nat.mul_le_mul_right (fineL S M n + 2) h.1
    have e : (M + 8) * (fineL S M n + 4) = M * (fineL S M n + 2) + 2 * M + 8 * (fineL S M n + 4) := by rw [Nat.add_mul, Nat.mul_add M, Nat.mul_add M]; omega
    show _ ≤ (M + 8) * (fineL S M n + 4) + 3
    omega
  | n + 1, .tup xs, h => by
    simp only [toPy, PyData.shown, toPyA_map, shownAll_map, List.map_map]
    have q := piled_le (L := fineL S M n) (xs.map (PyData.shown ∘ toPy)) fun t ht => by
      obtain ⟨d, hd, rfl⟩ := List.mem_map.mp ht
      exact fine_len n d (h.2 d hd)
    have z := tupleText_le (xs.map (PyData.shown ∘ toPy))
    rw [List.length_map] at q
    have m := Nat.mul_le_mul_right (fineL S M n + 2) h.1
    have e : (M + 8) * (fineL S M n + 4) = M * (fineL S M n + 2) + 2 * M + 8 * (fineL S M n + 4) := by rw [Nat.add_mul, Nat.mul_add M, Nat.mul_add M]; omega
    show _ ≤ (M + 8) * (fineL S M n + 4) + 3
    omega
  | n + 1, .dic ks vs, h => by
    simp only [toPy, PyData.shown, toPyA_map, zip_kv]
    have q := piled_le (L := 2 * fineL S M n + 2) (((ks.map toPy).zip (vs.map toPy)).map fun kv => kv.1.shown ++ ": " ++ kv.2.shown) fun t ht => by
      obtain ⟨⟨a, b⟩, hd, rfl⟩ := List.mem_map.mp ht
      obtain ⟨h1, h2⟩ := List.of_mem_zip hd
      obtain ⟨x, hx, rfl⟩ := List.mem_map.mp h1
      obtain ⟨y, hy, rfl⟩ := List.mem_map.mp h2
      have q1 := fine_len n x (h.2.1 x hx)
      have q2 := fine_len n y (h.2.2 y hy)
      show ((toPy x).shown ++ ": " ++ (toPy y).shown).length ≤ _
      rw [strLen_append, strLen_append]
      have e : ((": " : String) : Str).length = 2 := rfl
      rw [e]; omega
    have z := dictText_le (((ks.map toPy).zip (vs.map toPy)).map fun kv => kv.1.shown ++ ": " ++ kv.2.shown)
    rw [List.length_map, List.length_zip, List.length_map, List.length_map] at q
    have l4 : min ks.length vs.length ≤ 4 := Nat.le_trans (Nat.min_le_left _ _) h.1
    have m := Nat.mul_le_mul_right (2 * fineL S M n + 2 + 2) l4
    have e : (M + 8) * (fineL S M n + 4) = M * (fineL S M n + 4) + 8 * (fineL S M n + 4) := by rw [Nat.add_mul]
    show _ ≤ (M + 8) * (fineL S M n + 4) + 3
    omega
  | 0, .lst _, h => h.elim
  | 0, .tup _, h => h.elim
  | 0, .dic _ _, h => h.elim
  | 0, .obj _ _ _, h => h.elim
  | _ + 1, .obj _ _ _, h => h.elim
theorem showsAll_of : ∀ (xs : List Dt), (∀ d, d ∈ xs → (toPy d).showable = true) → PyData.showableAll (toPyA xs) = true
  | [], _ => by simp [toPyA, PyData.showableAll]
  | x :: xs, h => by rw [toPyA, PyData.showableAll, h x List.mem_cons_self, showsAll_of xs fun d hd => h d (List.mem_cons_of_mem _ hd)]; rfl
theorem deepAll_of {n : Nat} : ∀ (xs : List Dt), (∀ d, d ∈ xs → (toPy d).depth ≤ n) → PyData.depthAll (toPyA xs) ≤ n
  | [], _ => by simp [toPyA, PyData.depthAll]
  | x :: xs, h => by
    rw [toPyA, PyData.depthAll]
    exact Nat.max_le.mpr ⟨h x List.mem_cons_self, deepAll_of xs fun d hd => h d (List.mem_cons_of_mem _ hd)⟩
theorem plainAll_of : ∀ (xs : List Dt), (∀ d, d ∈ xs → plain d = true) → plainA xs = true
  | [], _ => by simp [plainA]
  | x :: xs, h => by rw [plainA, h x List.mem_cons_self, plainAll_of xs fun d hd => h d (List.mem_cons_of_mem _ hd)]; rfl
theorem showsKv_of : ∀ (ks vs : List Dt), (∀ d, d ∈ ks → (toPy d).showable = true) → (∀ d, d ∈ vs → (toPy d).showable = true) → PyData.showableKv ((toPyA ks).zip (toPyA vs)) = true
  | [], _, _, _ => by simp [toPyA, PyData.showableKv]
  | _ :: _, [], _, _ => by simp [toPyA, PyData.showableKv]
  | k :: ks, v :: vs, h1, h2 => by
    rw [toPyA, toPyA, List.zip_cons_cons, PyData.showableKv, h1 k List.mem_cons_self, h2 v List.mem_cons_self, showsKv_of ks vs (fun d hd => h1 d (List.mem_cons_of_mem _ hd)) fun d hd => h2 d (List.mem_cons_of_mem _ hd)]; rfl
theorem deepKv_of {n : Nat} : ∀ (ks vs : List Dt), (∀ d, d ∈ ks → (toPy d).depth ≤ n) → (∀ d, d ∈ vs → (toPy d).depth ≤ n) → PyData.depthKv ((toPyA ks).zip (toPyA vs)) ≤ n
  | [], _, _, _ => by simp [toPyA, PyData.depthKv]
  | _ :: _, [], _, _ => by simp [toPyA, PyData.depthKv]
  | k :: ks, v :: vs, h1, h2 => by
    rw [toPyA, toPyA, List.zip_cons_cons, PyData.depthKv]
    exact Nat.max_le.mpr ⟨Nat.max_le.mpr ⟨h1 k List.mem_cons_self, h2 v List.mem_cons_self⟩, deepKv_of ks vs (fun d hd => h1 d (List.mem_cons_of_mem _ hd)) fun d hd => h2 d (List.mem_cons_of_mem _ hd)⟩
theorem fine_rest {S M : Nat} : ∀ (n : Nat) (d : Dt), fine S M n d → (toPy d).showable = true ∧ (toPy d).depth ≤ n ∧ plain d = true
  | n, .non, _ => by simp [toPy, PyData.showable, PyData.depth, plain]
  | n, .bl b, _ => by simp [toPy, PyData.showable, PyData.depth, plain]
  | n, .int i, h => by
    have h' : i.natAbs < 10 ^ 30 := by cases n <;> exact h
    refine ⟨?_, by simp [toPy, PyData.depth], by simp [plain]⟩
    simp only [toPy, PyData.showable, decide_eq_true_eq]
    by_cases z : i.natAbs = 0
    · rw [z]; decide
    · exact (Nat.log2_lt z).mpr (Nat.lt_trans h' (by decide))
  | n, .str x, _ => by simp [toPy, PyData.showable, PyData.depth, plain]
  | n + 1, .lst xs, h => by
    simp only [toPy, PyData.showable, PyData.depth, plain]
    exact ⟨showsAll_of xs fun d hd => (fine_rest n d (h.2 d hd)).1, Nat.succ_le_succ (deepAll_of xs fun d hd => (fine_rest n d (h.2 d hd)).2.1), plainAll_of xs fun d hd => (fine_rest n d (h.2 d hd)).2.2⟩
  | n + 1, .tup xs, h => by
    simp only [toPy, PyData.showable, PyData.depth, plain]
    exact ⟨showsAll_of xs fun d hd => (fine_rest n d (h.2 d hd)).1, Nat.succ_le_succ (deepAll_of xs fun d hd => (fine_rest n d (h.2 d hd)).2.1), plainAll_of xs fun d hd => (fine_rest n d (h.2 d hd)).2.2⟩
  | n + 1, .dic ks vs, h => by
    simp only [toPy, PyData.showable, PyData.depth, plain]
    exact ⟨showsKv_of ks vs (fun d hd => (fine_rest n d (h.2.1 d hd)).1) fun d hd => (fine_rest n d (h.2.2 d hd)).1, Nat.succ_le_succ (deepKv_of ks vs (fun d hd => (fine_rest n d (h.2.1 d hd)).2.1) fun d hd => (fine_rest n d (h.2.2 d hd)).2.1), plainAll_of vs fun d hd => (fine_rest n d (h.2.2 d hd)).2.2⟩
  | 0, .lst _, h => h.elim
  | 0, .tup _, h => h.elim
  | 0, .dic _ _, h => h.elim
  | 0, .obj _ _ _, h => h.elim
  | _ + 1, .obj _ _ _, h => h.elim
mutual
def hasDic : Dt → Bool
  | .lst xs => hasDicA xs | .tup xs => hasDicA xs | .dic _ _ => true | _ => false
def hasDicA : List Dt → Bool
  | [] => false
  | d :: ds => hasDic d || hasDicA ds
end
mutual
theorem hasDic_py : ∀ d : Dt, (toPy d).hasDict = hasDic d
  | .non => by simp [toPy, PyData.hasDict, hasDic]
  | .bl _ => by simp [toPy, PyData.hasDict, hasDic]
  | .int _ => by simp [toPy, PyData.hasDict, hasDic]
  | .str _ => by simp [toPy, PyData.hasDict, hasDic]
  | .lst xs => by simp [toPy, PyData.hasDict, hasDic, hasDicA_py xs]
  | .tup xs => by simp [toPy, PyData.hasDict, hasDic, hasDicA_py xs]
  | .dic _ _ => by simp [toPy, PyData.hasDict, hasDic]
  | .obj _ _ _ => by simp [toPy, PyData.hasDict, hasDic]
theorem hasDicA_py : ∀ ds : List Dt, PyData.hasDictAll (toPyA ds) = hasDicA ds
  | [] => by simp [toPyA, PyData.hasDictAll, hasDicA]
  | d :: ds => by simp [toPyA, PyData.hasDictAll, hasDicA, hasDic_py d, hasDicA_py ds]
end
theorem fine_shown {S M n : Nat} {d : Dt} (h : fine S M n d) (hl : fineL S M n ≤ 16777216) (hn : n ≤ 60) (h1 : hasDic d = true → hasLst d = false) : Shown d := by
  obtain ⟨a, b, c⟩ := fine_rest n d h
  exact ⟨c, fun z => h1 (by rw [← hasDic_py]; exact z), a, Nat.le_trans (fine_len n d h) (by rw [sizeLine_eq]; exact hl), Nat.le_trans b hn⟩
end Dat

set_option Elab.async false
set_option linter.all false
set_option maxRecDepth 100000
set_option maxHeartbeats 4000000
/-! Dat10: comprehensions told by their items; texts joined. -/
namespace Dat
open PySem PySem.Spec PyProof.Rows L2
section
variable {X : Cx} {w : Wd} {ρ : List SV} {μ : Mus} {R : SV → Mus → Prop} {elt c : Expr} {scope : Scope} {j : Nat} {items : List Dt}
/-- [f x for x in items] -/
theorem lc_map (f : Dt → Dt) (hl : items.length ≤ 100000) (h : ∀ d, d ∈ items → ∀ w' k, DE (BX X scope k) w' elt (ρ.set j (.dat d)) μ fun r μ' => r = .dat (f d) ∧ μ' = μ) (hR : R (.dat (.lst (items.map f))) μ) : LcAsk X scope elt [] ρ j R items μ := by
  refine ⟨hl, fun n acc μ' => μ' = μ ∧ acc = (items.take n).map f, ⟨rfl, by simp⟩, ?_, ?_⟩
  · rintro n acc d μ2 hd _ ⟨rfl, rfl⟩ w' k
    refine dq_nil ⟨fun _ kc => (h d (List.mem_of_getElem? hd) w' kc).imp fun r μ' ⟨h1, h2⟩ => ⟨f d, h1, h2, ?_⟩, nofun⟩
    rw [List.take_add_one, hd, List.map_append]
    rfl
  · rintro acc μ' ⟨rfl, rfl⟩ _
    rw [List.take_length]
    exact hR
/-- [f x for x in items if p x] -/
theorem lc_filter (f : Dt → Dt) (p : Dt → Bool) (hl : items.length ≤ 100000) (hc : ∀ d, d ∈ items → ∀ w' k, DT (BX X scope k) w' c (ρ.set j (.dat d)) μ fun b μ' => b = p d ∧ μ' = μ)
    (h : ∀ d, d ∈ items → p d = true → ∀ w' k, DE (BX X scope k) w' elt (ρ.set j (.dat d)) μ fun r μ' => r = .dat (f d) ∧ μ' = μ) (hR : R (.dat (.lst ((items.filter p).map f))) μ) : LcAsk X scope elt [c] ρ j R items μ := by
  refine ⟨hl, fun n acc μ' => μ' = μ ∧ acc = ((items.take n).filter p).map f, ⟨rfl, by simp⟩, ?_, ?_⟩
  · rintro n acc d μ2 hd _ ⟨rfl, rfl⟩ w' k
    have hm := List.mem_of_getElem? hd
    have tk : items.take (n + 1) = items.take n ++ [d] := by rw [List.take_add_one, hd]; rfl
    refine dq_one ((hc d hm w' k).imp fun b μ3 ⟨hb, e⟩ => ?_)
    subst e
    refine ⟨fun t kc => (h d hm (by rw [← hb]; exact t) w' kc).imp fun r μ' ⟨h1, h2⟩ => ⟨f d, h1, h2, ?_⟩, fun t => ⟨rfl, ?_⟩⟩
    · rw [tk, List.filter_append, List.map_append, List.filter_cons, ← hb, if_pos t]; rfl
    · rw [tk, List.filter_append, List.filter_cons, ← hb, if_neg (by rw [t]; decide)]; simp
  · rintro acc μ' ⟨rfl, rfl⟩ _
    rw [List.take_length]
    exact hR
/-- elements of which T holds, each item giving one -/
theorem lc_some (T : Dt → Prop) (hl : items.length ≤ 100000) (h : ∀ d, d ∈ items → ∀ w' k, DE (BX X scope k) w' elt (ρ.set j (.dat d)) μ fun r μ' => ∃ d', r = .dat d' ∧ T d' ∧ μ' = μ)
    (hR : ∀ acc, acc.length = items.length → (∀ d, d ∈ acc → T d) → R (.dat (.lst acc)) μ) : LcAsk X scope elt [] ρ j R items μ := by
  refine ⟨hl, fun n acc μ' => μ' = μ ∧ acc.length = (items.take n).length ∧ ∀ d, d ∈ acc → T d, ⟨rfl, by simp, by simp⟩, ?_, ?_⟩
  · rintro n acc d μ2 hd _ ⟨rfl, hlen, hT⟩ w' k
    refine dq_nil ⟨fun _ kc => (h d (List.mem_of_getElem? hd) w' kc).imp fun r μ' ⟨d', h1, h2, h3⟩ => ⟨d', h1, h3, ?_, ?_⟩, nofun⟩
    · rw [List.take_add_one, hd, List.length_append, List.length_append, hlen]; rfl
    · intro y hy
      rcases List.mem_append.mp hy with e | e
      · exact hT y e
      · rw [List.mem_singleton.mp e]; exact h2
  · rintro acc μ' ⟨rfl, hlen, hT⟩ _
    rw [List.take_length] at hlen
    exact hR acc hlen hT
theorem signs_mem {z : Str} {d : Dt} (h : d ∈ signs z) : ∃ c, c ∈ z.cps.toList ∧ d = .str ⟨#[c]⟩ := by
  obtain ⟨c, h1, h2⟩ := List.mem_map.mp h
  exact ⟨c, h1, h2.symm⟩
theorem signs_len (z : Str) : (signs z).length = z.length := by
  unfold signs
  rw [List.length_map, Array.length_toList]; rfl
theorem lt_sign (a b : Nat) : decide ([a] < [b]) = decide (a < b) := by
  rw [Bool.eq_iff_iff, decide_eq_true_eq, decide_eq_true_eq]
  constructor
  · intro h
    cases h with
    | rel h => exact h
    | cons h => cases h
  · intro h
    exact .rel h
end
section
variable {X : Cx} {w : Wd} {ρ : List SV} {μ : Mus} {R : SV → Mus → Prop} {o e : Expr} {apos pos : Pos}
theorem de_join (ho : DE X w o ρ μ fun r μ1 => ∃ a, r = .dat (.str a) ∧ DE X w e ρ μ1 fun r2 μ2 => ∃ ys : List Str, LsQ r2 μ2 (ys.map Dt.str) ∧ (ys.map (·.length)).sum + ys.length * a.length ≤ 16777216 ∧ R (.dat (.str (Txt.join a ys))) μ2)
    (hs : starEach [e] X.env = [(false, eval e X.env)] := by rfl) (hbase : attributeBase o "join" X.env (eval o X.env) = eval o X.env := by rfl) (hline : (apos.endLine == pos.line) = true := by rfl) : DE X w (.Call (.Attribute o "join" apos) [e] [] pos) ρ μ R := fun σ B H S I Q k =>
  tE_of (pe_join pe_self pe_self hs hbase hline) (ho σ B H S I _ fun v r B1 H1 μ1 I1 e1 q1 h1 => by
    obtain ⟨a, rfl, h1⟩ := h1
    cases q1
    refine ⟨⟨a, rfl⟩, h1 σ B1 H1 (S.mono e1) I1 _ fun v2 r2 B2 H2 μ2 I2 e2 q2 h2 => ?_⟩
    obtain ⟨ys, hl, hz, h2⟩ := h2
    obtain ⟨p, xs, rfl, hp, hx⟩ := ls_get I2 q2 hl
    have ev := DqA.strs hx
    subst ev
    exact ⟨a, p, ys, rfl, rfl, .inl (.inl (.inl hp)), hz, k _ (.dat (.str (Txt.join a ys))) B2 H2 μ2 I2 (e1.trans e2) (Dq.str _) h2⟩)
theorem de_upper (ho : DE X w o ρ μ fun r μ1 => ∃ a, r = .dat (.str a) ∧ a.length ≤ 5592405 ∧ R (.dat (.str (Txt.upper a))) μ1)
    (hbase : attributeBase o "upper" X.env (eval o X.env) = eval o X.env := by rfl) (hline : (apos.endLine == pos.line) = true := by rfl) : DE X w (.Call (.Attribute o "upper" apos) [] [] pos) ρ μ R := fun σ B H S I Q k =>
  tE_of (pe_upper pe_self hbase hline) (ho σ B H S I _ fun v r B1 H1 μ1 I1 e1 q1 h1 => by
    obtain ⟨a, rfl, hl, h1⟩ := h1
    cases q1
    exact ⟨⟨a, rfl⟩, a, rfl, rfl, hl, k _ (.dat (.str (Txt.upper a))) B1 H1 μ1 I1 e1 (Dq.str _) h1⟩)
theorem op_mulS {x : Str} {n : Int} (hok : MulOk x n) (h : R (.dat (.str (Txt.mul x n))) μ) : OpD X w (binaryOp .Mult) (.dat (.str x)) (.dat (.int n)) μ R := fun B H v u I q1 q2 Q k pins s σ a b J ra rb => by
  cases q1; cases q2
  obtain ⟨t, rfl⟩ := ra
  obtain ⟨t', rfl⟩ := rb
  exact SB.mul hok fun t2 k2 => ⟨.str _, H, J.tok _, ⟨_, rfl⟩, k _ (.dat (.str (Txt.mul x n))) B H μ I (Ex.refl B) (Dq.str _) h⟩
/-- a dict of one text key -/
theorem de_dict0 (h : R (.dat (.dic [] [])) μ) : DE X w (.Dict [] [] pos) ρ μ R := fun σ B H S I Q k =>
  tE_of pe_dnewK fun p hp => k (.ref p) (.dat (.dic [] [])) _ _ μ (I.new hp _) (Ex.new (I.free hp).1) (Dq.dic (kvs := []) upd_same .nil) h
theorem de_dict1 {ke ve : Expr} (h : ∀ w', DE X w' ke ρ μ fun r μ1 => ∃ x, r = .dat (.str x) ∧ DE X w' ve ρ μ1 fun r2 μ2 => ∃ d, r2 = .dat d ∧ R (.dat (.dic [.str x] [d])) μ2) : DE X w (.Dict [some ke] [ve] pos) ρ μ R := fun σ B H S I Q k =>
  tE_of (pe_disp (pps_cons pe_self pe_self pps_nil) rfl rfl (by simp) (by simp)) fun p hp => by
    -- the new dict is made ahead of what it holds: a world begins here
    obtain ⟨bp, mp, wp⟩ := I.free hp
    have I0 : SInv w B (upd H p (.dK [])) μ := I.own bp wp mp _
    have J0 : SInv ⟨B, upd H p (.dK []), fun q => μ q ≠ none⟩ B (upd H p (.dK [])) μ := SInv.start I0.bh fun q o z => ⟨(I0.mus q o z).1, (I0.mus q o z).2.1⟩
    refine h _ σ B _ S J0 _ fun v r B1 H1 μ1 I1 e1 q1 h1 => ?_
    obtain ⟨x, rfl, h1⟩ := h1
    cases q1
    refine h1 σ B1 H1 (S.mono e1) I1 _ fun v2 r2 B2 H2 μ2 I2 e2 q2 h2 => ?_
    obtain ⟨d, rfl, h2⟩ := h2
    have hH : H2 p = some (.dK []) := I2.keep p _ (fun z => z mp) upd_same
    have hB : B2 p = none := I2.out p (show upd H p (.dK []) p ≠ none by rw [upd_same]; exact nofun) bp
    have hM : μ2 p = none := by
      cases z : μ2 p with
      | none => rfl
      | some o =>
        rcases (I2.mus p o z).2.2 with c | c
        · exact absurd mp c
        · have c' : upd H p (.dK []) p = none := c
          rw [upd_same] at c'; cases c'
    refine ⟨hH, [(Sum.inr x, v2)], rfl, by simp, ?_⟩
    have I3 := ((I0.back I2).own hB wp hM (.dK (mergeK [] [(Sum.inr x, v2)]))).told hB wp hM upd_same
    exact k (.ref p) (.dat (.dic [.str x] [d])) _ _ μ2 I3 ((e1.trans e2).trans (Ex.new hB)) (Dq.dic (kvs := [(Sum.inr x, v2)]) upd_same (DqA.one ((show Dq B2 v2 d from q2).mono (Ex.new hB)))) h2
end
end Dat

set_option Elab.async false
set_option linter.all false
set_option maxRecDepth 100000
set_option maxHeartbeats 4000000
/-! Dat11: defs that may raise one of their own errors (without a field); try and except over data. -/
namespace Dat
open PySem PySem.Spec PyProof.Rows L2
theorem Sto.drop {B : Hp} {σ : L2.St} {ρ : List SV} (S : Sto B σ ρ) (i : Nat) : Sto B (σ.set i none) (ρ.set i .no) := ⟨by rw [List.length_set, List.length_set, S.len], fun j u hj => by
  by_cases e : i = j
  · subst e
    by_cases hl : i < ρ.length
    · rw [List.getElem?_set_self hl] at hj
      exact .inl (Option.some.inj hj).symm
    · rw [List.getElem?_eq_none (by rw [List.length_set]; omega)] at hj
      cases hj
  · rw [List.getElem?_set_ne e] at hj
    rcases S.get j u hj with h | ⟨v, h1, h2⟩
    · exact .inl h
    · exact .inr ⟨v, by rw [List.getElem?_set_ne e]; exact h1, h2⟩⟩
structure FnX (P : Program) (w : World) (K : PySem.W.Frag) (mg : Str → Option Value) (base : Heap) (k : Nat) (f : Addr) (fd : FuncData) (ps : List Str) (sp : Sp) : Prop where
  len : ∀ vs H Q E, sp vs H Q E → vs.length = ps.length
  run : ∀ (A : Around) (outer : List Env) (s : Shared) (H : Hp) (args : Args) (us : List Value) (vs : List V) (Q : VK) (E : XK), Room k A → A.guards = some [] → Env0 P w K mg base A outer s H → BindsTo s fd args (ps.zip us) → Vals vs us → sp vs H Q E →
    codeAny (model P w) A (.call (.ref f) args) (CR (L2.CX P w) outer P w H s Q E) s
/-- pre of the arguments, post of the answer, or the error C where exc holds -/
def XSp (C : Addr) (pre : List SV → Mus → Prop) (post : List SV → Mus → SV → Mus → Prop) (exc : List SV → Mus → Prop) : Sp := fun vs H Q E => ∃ B rs μ, SvA B vs rs ∧ Ex B H ∧ (∀ p o, μ p = some o → B p = none ∧ MoOk B H p o) ∧ pre rs μ ∧
  (∀ v r B' H' μ', SInv ⟨B, H, fun p => μ p ≠ none⟩ B' H' μ' → Svq B' v r → post rs μ r μ' → Q v H') ∧ (exc rs μ → ∀ B' H', SInv ⟨B, H, fun p => μ p ≠ none⟩ B' H' μ → E (.ref C) none H')
section
variable {P : Program} {wd : World} {K : PySem.W.Frag} {mg : Str → Option Value} {base : Heap}
abbrev bxx (P : Program) (wd : World) (K : PySem.W.Frag) (mg : Str → Option Value) (base : Heap) (N : List Str) (qual : Str) (st : Stmt) (f : Addr) (cdv : Value) (A : Around) (outer : List Env) (s : Shared) (H : Hp) (E : XK) : Cx :=
  cxOf (L2.CX P wd) P wd K mg base N qual (defScope st) f cdv A outer s H E
theorem fnx_ok {C : Addr} {x qual : Str} {st : Stmt} {f : Addr} {fd : FuncData} {N ps : List Str} {k : Nat} {pre : List SV → Mus → Prop} {post : List SV → Mus → SV → Mus → Prop} {exc : List SV → Mus → Prop} (F : Fun K x qual st f fd) (S : FnScope N ps (defScope st))
    (len : ∀ rs μ, pre rs μ → rs.length = ps.length)
    (body : ∀ (cdv : Value) (A : Around) (outer : List Env) (s : Shared) (H : Hp) (E : XK), Room k (bxx P wd K mg base N qual st f cdv A outer s H E).A → (bxx P wd K mg base N qual st f cdv A outer s H E).A.guards = some [] → ∀ w rs μ, pre rs μ →
      (exc rs μ → ∀ B' H' μ', μ.Sub μ' → SInv w B' H' μ' → E (.ref C) none H') →
      DSs (bxx P wd K mg base N qual st f cdv A outer s H E) w (defBody st) (rs ++ List.replicate (N.length - rs.length) .no) μ { nx := fun _ μ' => ∃ ν, ν.Sub μ' ∧ post rs μ (.dat .non) ν, rt := fun r μ' => ∃ ν, ν.Sub μ' ∧ post rs μ r ν }) :
    FnX P wd K mg base (k + 1) f fd ps (XSp C pre post exc) := by
  have len' : ∀ vs H Q E, XSp C pre post exc vs H Q E → vs.length = ps.length := fun vs H Q E h => by
    obtain ⟨B, rs, μ, h1, _, _, h2, _⟩ := h
    rw [h1.length]; exact len rs μ h2
  obtain ⟨oc, od, kV, doc, pm, an, cdv, ct, osl, rfl, lk, hcd⟩ := F.ex
  refine ⟨len', fun A outer s H args us vs Q E hr hg en hb rv hsp => ?_⟩
  have inK : K.In s.heap := en.mod.kin.keeps fun b o z => (en.bs b o z).1
  refine codeAny_call_function hr.depth (inK _ _ lk) rfl S.co S.gen rfl (PySem.W.codeRec_of inK hcd) (hb _ _ _ _ (wpAny_newFunctionEnv_cells S.kind ?_ fun env he s1 hx => ?_))
  · rintro ⟨n, v⟩ hy
    have q := S.par n (List.of_mem_zip hy).1
    exact q.imp id fun z => ⟨z, PySem.W.cellsFrom_some _ _ _ (.inl z)⟩
  · subst he
    refine ⟨(en.mod.nolimit.keeps fun b o z => (en.bs b o z).1).keeps hx.toInCall.keep, codeAny_func ?_⟩
    have I0 := inv_start (CX := L2.CX P wd) (qual := qual) (f := f) (cd := cdv) (E := E) S hr.hd en (len' _ _ _ _ hsp) rv hx
    obtain ⟨B, rs, μ, q1, q2, q3, q4, q5, q6⟩ := id hsp
    have b0 := body cdv A outer s H E (hr.deeper _) hg ⟨B, H, fun p => μ p ≠ none⟩ rs μ q4 (fun he B' H' μ' sb J => q6 he B' H' (J.sub sb)) (L2.start N vs) B H (start_sto q1) (SInv.start q2 q3) { nx := fun _ H' => Q .non H', rt := Q }
      ⟨fun _ B' H' _ μ' _ J _ ⟨ν, hν, h⟩ => q5 .non (.dat .non) B' H' ν (J.sub hν) Dq.non h, fun v r B' H' μ' J _ q ⟨ν, hν, h⟩ => q5 v r B' H' ν (J.sub hν) q h, fun _ _ _ _ _ _ _ _ h => h.elim, fun _ _ _ _ _ _ _ _ h => h.elim⟩
    refine wpAny_mono (b0 [] s1 I0) (fun fl s' hs => ?_) fun _ _ hs => hs
    have done : ∀ {σ' : L2.St} {H' : Hp} {v : V} {u : Value}, Inv (bxx P wd K mg base N qual st f cdv A outer s H E) [] σ' H' s' → RelV v u → Q v H' → CE outer P wd H s Q u s' := fun {σ' H' v u} J rv q => ⟨v, H', J.os, J.bare, J.base, J.hok, rv, q⟩
    cases fl with
    | ret u => obtain ⟨v, σ', H', J, rv, q⟩ := hs; exact done J rv q
    | next => obtain ⟨σ', H', J, q⟩ := hs; exact done (v := V.non) (u := Value.none) J rfl q
    | brk => obtain ⟨_, _, _, q⟩ := hs; exact q.elim
    | cont => obtain ⟨_, _, _, q⟩ := hs; exact q.elim
end
section
variable {X : Cx} {w : Wd} {ρ : List SV} {μ : Mus} {R : SV → Mus → Prop} {P : Po} {e : Expr} {es : List Expr} {x : Str} {p pos : Pos} {k : Nat} {f C : Addr} {fd : FuncData} {ps : List Str} {W : WX}
/-- a call that may raise C -/
theorem de_callX {pre : List SV → Mus → Prop} {post : List SV → Mus → SV → Mus → Prop} {exc : List SV → Mus → Prop} (F : FnX X.prog X.w X.K X.mg X.base k f fd ps (XSp C pre post exc)) (tk : Takes X W) (hr : Room k X.A) (hgd : X.A.guards = some []) (hm : X.mg x = some (.ref f)) (hk : PySem.W.keepIn X.K (.ref f) = true) (hb : Binds X.K fd ps [])
    (ha : DA X w (e :: es) ρ μ fun rs μ1 => pre rs μ1 ∧ (∀ r μ2, post rs μ1 r μ2 → R r μ2) ∧ (exc rs μ1 → ∀ σ B H, Sto B σ ρ → SInv w B H μ1 → W (.ref C) none σ H)) (hg : Gl X x := by rfl) (hdb : (x == ("__debug__" : Str)) = false := by decide)
    (he : starEach (e :: es) X.env = (false, eval e X.env) :: starEach es X.env := by rfl) (hpl : (backTo pos (starEach es X.env)).any (·.1) = false := by rfl) : DE X w (.Call (.Name x p) (e :: es) [] pos) ρ μ R := fun σ B H S I Q kk pins s J => by
  refine wpAny_Call_Name_kw (ld_glob J hg hm ?_ hdb)
  refine PySem.W.callWith_K (h₀ := X.base) J.ok.mod.kin hk (thn ((pa_self (X := X) (es := e :: es)).run pos pins s σ H _ J (ha σ B H S I
    (fun vs H1 => ∀ us s1, Inv X pins σ H1 s1 → Vals vs us → wpAny (model X.prog X.w) X.A (call (.ref f) us) (EP X pins σ Q) X.xe s1) ?_)) fun us s1 ⟨vs, H1, J1, rv, q⟩ => ⟨J1.kIn, q us s1 J1 rv⟩) he hpl
  intro vs rs B1 H1 μ1 I1 e1 q1 h1 us s1 J1 rv
  have hsp : XSp C pre post exc vs H1 Q (WE W σ) := ⟨B1, rs, μ1, q1, I1.bh, fun p o z => ⟨(I1.mus p o z).1, (I1.mus p o z).2.1⟩, h1.1, fun v r B' H' μ' L qv hp => kk v r B' H' μ' (I1.back L) (e1.trans L.b0) qv (h1.2.1 r μ' hp),
    fun he B' H' L => h1.2.2 he σ B' H' (S.mono (e1.trans L.b0)) (I1.back L)⟩
  have hl : (us ++ []).length = ps.length := by rw [List.append_nil, ← rv.length]; exact F.len _ _ _ _ hsp
  have bd := hb s1 us J1.kIn hl
  rw [List.append_nil] at bd
  refine wpAny_call (codeAny_mono (F.run X.A X.stack s1 H1 ⟨us, []⟩ us vs Q (WE W σ) hr hgd J1.env0 bd rv hsp) fun r s' hq => ?_)
  match r, hq with
  | .ok (.ret u), hq => exact J1.after hq
  | .ok .next, hq => exact hq.elim
  | .ok .brk, hq => exact hq.elim
  | .ok .cont, hq => exact hq.elim
  | .error u, hq => exact passAt tk σ pins H1 s1 u s' J1 hq
/-- raise C("words"), C under ValueError without a def of its own -/
theorem ds_raiseV {m : Str} {j : Nat} {p2 : Pos} (tk : Takes X W) (hc : X.calm = true) (q : PySem.W.excIn X.K C [.type "ValueError", .type "Exception", .type "BaseException", .type "object"] "ValueError.__new__" = true) (gC : X.mg x = some (.ref C)) (kC : PySem.W.keepIn X.K (.ref C) = true)
    (r : Raises X (.ref C)) (h : ∀ σ B H, Sto B σ ρ → SInv w B H μ → W (.ref C) none σ H) (hg : Gl X x := by rfl) (hdb : (x == ("__debug__" : Str)) = false := by decide) {pos2 : Pos} :
    DS X w (.Raise (some (.Call (.Name x p) [.Constant (.str m) j p2] [] pos)) none pos2) ρ μ P := fun σ B H S I D E =>
  tS_of (ps_raise hc tk (pmk_own PySem.F.excBase_ValueError q gC kC r hg hdb)) (h σ B H S I)
/-- try: body; except C as n: suite -/
theorem ds_try {n : Str} {np pos' : Pos} {body suite : List Stmt} {b₀ : Stmt} {cv : Value} (i : Nat) (exc : Mus → Prop) (hN : X.N.Nodup) (hc : Names X x cv) (eP : PySem.W.exmOne X.K (.ref C) cv = some true)
    (hb : ∀ w2 W pn xe, Takes (X.tr pn xe) W → (∀ σ' B' H' μ', Sto B' σ' ρ → SInv w2 B' H' μ' → exc μ' → W (.ref C) none σ' H') → DSs (X.tr pn xe) w2 body ρ μ P)
    (hsu : ∀ a oe pn μ', Zc (.ref C) none oe → (∃ vs, oe.data = .fields vs) → exc μ' → DSs (X.suite a ((a, oe) :: pn)) w (b₀ :: suite) (ρ.set i (.at a)) μ' { nx := fun ρ' μ' => P.nx (ρ'.set i .no) μ', rt := P.rt, bk := fun ρ' μ' => P.bk (ρ'.set i .no) μ', ct := fun ρ' μ' => P.ct (ρ'.set i .no) μ' })
    (hi : X.N[i]? = some n := by rfl) (hln : X.env.kindOf n = some .local := by rfl) (hs : X.stack = X.env :: X.outer := by rfl) (hf : X.env.frame = some X.env.locals := by rfl) :
    DS X w (.Try body [.ExceptHandler (some (.Name x np)) (some n) (b₀ :: suite) pos'] [] [] pos) ρ μ P := fun σ B H S I D E => by
  refine tS_of (ps_try_as (i := i) (Wout := fun _ _ _ _ => False) (tb := fun W D σ H => ∀ pn xe, Takes (X.tr pn xe) W → PassesOwn (model X.prog X.w) X.A X.env xe → tB_ (X.tr pn xe) body D σ H)
    (ts := fun a cls d D σ H => ∀ oe pn, Zc cls d oe → (∃ vs, oe.data = .fields vs) → tB_ (X.suite a ((a, oe) :: pn)) (b₀ :: suite) D σ H) hs hf hN hi hln hc takes0
    (fun W pn xe tk po => ⟨fun pins s σ H D J q => q pn xe tk po pins s J⟩) (fun a oe cls d pn hz hf => ⟨fun pins s σ H D J q => q oe pn hz hf pins s J⟩)) ?_
  intro pn xe tk po
  have L0 : SInv ⟨B, H, fun p => μ p ≠ none⟩ B H μ := SInv.start I.bh fun p o z => ⟨(I.mus p o z).1, (I.mus p o z).2.1⟩
  refine hb _ _ pn xe tk (fun σ' B' H' μ' S' I' hx => ⟨true, eP, fun _ a ha oe pn hz hf => ?_, nofun⟩) σ B H S L0 D ⟨?_, ?_, ?_, ?_⟩
  · have eB : Ex B B' := I'.b0
    refine hsu a oe pn μ' hz hf hx _ B' H' (S'.set i (show Svq B' (.ref a) (.at a) from rfl)) (I.back I') _ ⟨?_, ?_, ?_, ?_⟩
    · exact fun σ2 B2 H2 ρ2 μ2 S2 I2 e2 h2 => E.nx _ B2 H2 _ μ2 (S2.drop i) I2 (eB.trans e2) h2
    · exact fun v r B2 H2 μ2 I2 e2 q2 h2 => E.rt v r B2 H2 μ2 I2 (eB.trans e2) q2 h2
    · exact fun σ2 B2 H2 ρ2 μ2 S2 I2 e2 h2 => E.bk _ B2 H2 _ μ2 (S2.drop i) I2 (eB.trans e2) h2
    · exact fun σ2 B2 H2 ρ2 μ2 S2 I2 e2 h2 => E.ct _ B2 H2 _ μ2 (S2.drop i) I2 (eB.trans e2) h2
  · exact fun σ2 B2 H2 ρ2 μ2 S2 I2 e2 h2 => E.nx _ B2 H2 _ μ2 S2 (I.back I2) e2 h2
  · exact fun v r B2 H2 μ2 I2 e2 q2 h2 => E.rt v r B2 H2 μ2 (I.back I2) e2 q2 h2
  · exact fun σ2 B2 H2 ρ2 μ2 S2 I2 e2 h2 => E.bk _ B2 H2 _ μ2 S2 (I.back I2) e2 h2
  · exact fun σ2 B2 H2 ρ2 μ2 S2 I2 e2 h2 => E.ct _ B2 H2 _ μ2 S2 (I.back I2) e2 h2
/-- isinstance(e, T), e the error that the suite holds -/
theorem ca_isE {a D : Addr} {oe : Obj} {pn : List (Addr × Obj)} {r : SV} {cv : Value} {b : Bool} (CC : ExcC X.K D) (hz : Zc (.ref D) none oe) (hf : ∃ vs, oe.data = .fields vs) (hr : r = .at a) {t : SV} (ht : (∃ T, t = .ty T ∧ cv = .type T) ∨ (∃ c, t = .at c ∧ cv = .ref c))
    (hk : PySem.W.kitOne X.K (.ref D) cv = some b) (h : R (.dat (.bl b)) μ) : CaD (X.suite a ((a, oe) :: pn)) w (.builtin "isinstance") [r, t] μ R := fun B H vs I q Q kk => by
  subst hr
  obtain ⟨v, u, rfl, q1, q2⟩ := q.two
  cases (show v = V.ref a from q1)
  refine sC_of (call_isE CC hz hf) ⟨u, cv, b, rfl, ?_, hk, kk (.bl b) (.dat (.bl b)) B H μ I (Ex.refl B) (Dq.bl _) h⟩
  rcases ht with ⟨T, rfl, rfl⟩ | ⟨c, rfl, rfl⟩
  · cases (show u = V.ty T from q2)
    exact fun u' h => h
  · cases (show u = V.ref c from q2)
    exact fun u' h => h
/-- a class of the module, by its name -/
theorem de_globC {c : Addr} (hm : X.mg x = some (.ref c)) (h : R (.at c) μ) (hg : Gl X x := by rfl) (hd : (x == ("__debug__" : Str)) = false := by decide) : DE X w (.Name x pos) ρ μ R := fun σ B H _ I Q k => by
  exact tE_of (pe_glob (v := .ref c) hg hm rfl hd) (k (.ref c) (.at c) B H μ I (Ex.refl B) rfl h)
end
end Dat

set_option Elab.async false
set_option linter.all false
set_option maxRecDepth 100000
set_option maxHeartbeats 4000000
/-! Dat12: texts split, looked through, put together; a call by a keyword alone. -/
namespace Dat
open PySem PySem.Spec PyProof.Rows L2
section
variable {X : Cx} {w : Wd} {ρ : List SV} {μ : Mus} {R : SV → Mus → Prop} {o e : Expr} {es : List Expr} {apos pos : Pos} {x : Str}
theorem dqa_strs (H : Hp) : ∀ zs : List Str, DqA H (zs.map V.str) (zs.map Dt.str)
  | [] => .nil
  | z :: zs => .cons (Dq.str z) (dqa_strs H zs)
theorem de_split (ho : DE X w o ρ μ fun r μ1 => ∃ a, r = .dat (.str a) ∧ DE X w e ρ μ1 fun r2 μ2 => ∃ b : Str, r2 = .dat (.str b) ∧ (b.length == 0) = false ∧ a.length + 2 ≤ sizeLine ∧ R (.dat (.lst ((Txt.split a b).map Dt.str))) μ2)
    (hs : starEach [e] X.env = [(false, eval e X.env)] := by rfl) (hbase : attributeBase o "split" X.env (eval o X.env) = eval o X.env := by rfl) (hline : (apos.endLine == pos.line) = true := by rfl) : DE X w (.Call (.Attribute o "split" apos) [e] [] pos) ρ μ R := fun σ B H S I Q k =>
  tE_of (pe_split pe_self pe_self hs hbase hline) (ho σ B H S I _ fun v r B1 H1 μ1 I1 e1 q1 h1 => by
    obtain ⟨a, rfl, h1⟩ := h1
    cases q1
    refine ⟨⟨a, rfl⟩, h1 σ B1 H1 (S.mono e1) I1 _ fun v2 r2 B2 H2 μ2 I2 e2 q2 h2 => ?_⟩
    obtain ⟨b, rfl, hb, hz, h2⟩ := h2
    cases q2
    refine ⟨a, b, rfl, rfl, hb, hz, fun p hp => ?_⟩
    have f := (I2.free hp).1
    refine k _ (.dat (.lst ((Txt.split a b).map Dt.str))) _ _ μ2 (I2.new hp _) ((e1.trans e2).trans (Ex.new f)) (Dq.lst upd_same (dqa_strs _ _)) h2)
theorem de_m0 {name : Str} {id : String} {g : Str → V} {d : Str → Dt} (slot : Slot "str" name id) (ty : typeOf (.builtin id) = pure (.type "method_descriptor")) (rule : MtR X id (fun x xs H Q => ∃ a, x = .str a ∧ xs = [] ∧ True ∧ Q (g a) H)) (hgd : ∀ B a, Dq B (g a) (d a))
    (ho : DE X w o ρ μ fun r μ1 => ∃ a, r = .dat (.str a) ∧ R (.dat (d a)) μ1)
    (hbase : attributeBase o name X.env (eval o X.env) = eval o X.env := by rfl) (hline : (apos.endLine == pos.line) = true := by rfl) : DE X w (.Call (.Attribute o name apos) [] [] pos) ρ μ R := fun σ B H S I Q k =>
  tE_of (pe_m0 slot ty rule pe_self hbase hline) (ho σ B H S I _ fun v r B1 H1 μ1 I1 e1 q1 h1 => by
    obtain ⟨a, rfl, h1⟩ := h1
    cases q1
    exact ⟨⟨a, rfl⟩, a, rfl, rfl, trivial, k _ (.dat (d a)) B1 H1 μ1 I1 e1 (hgd B1 a) h1⟩)
theorem ca_intS {a : Str} {n : Int} (ha : PySem.intText? a = some n) (hl : a.length ≤ 640) (h : R (.dat (.int n)) μ) : CaD X w (.type "int") [.dat (.str a)] μ R := fun B H vs I q Q k => by
  obtain ⟨v, rfl, q1⟩ := q.one
  cases q1
  exact sC_of call_int_str ⟨a, n, rfl, ha, hl, k (.int _) (.dat (.int _)) B H μ I (Ex.refl B) (Dq.int _) h⟩
theorem ca_intB {b : Bool} (h : R (.dat (.int (if b then 1 else 0))) μ) : CaD X w (.type "int") [.dat (.bl b)] μ R := fun B H vs I q Q k => by
  obtain ⟨v, rfl, q1⟩ := q.one
  cases q1
  exact sC_of call_int1 (.inr ⟨b, rfl, k (.int _) (.dat (.int _)) B H μ I (Ex.refl B) (Dq.int _) h⟩)
theorem ca_strI {i : Int} (hi : i.natAbs.log2 < 1920) (h : R (.dat (.str (toString i))) μ) : CaD X w (.type "str") [.dat (.int i)] μ R := fun B H vs I q Q k => by
  obtain ⟨v, rfl, q1⟩ := q.one
  cases q1
  exact sC_of call_str_int ⟨i, rfl, hi, k (.str _) (.dat (.str _)) B H μ I (Ex.refl B) (Dq.str _) h⟩
theorem ca_strS {a : Str} (h : R (.dat (.str a)) μ) : CaD X w (.type "str") [.dat (.str a)] μ R := fun B H vs I q Q k => by
  obtain ⟨v, rfl, q1⟩ := q.one
  cases q1
  exact sC_of SkE.call_str_str ⟨a, rfl, k (.str _) (.dat (.str _)) B H μ I (Ex.refl B) (Dq.str _) h⟩
/-- an f-string's parts -/
def DJ (X : Cx) (w : Wd) (es : List Expr) (acc : Str) (ρ : List SV) (μ : Mus) (R : Str → Mus → Prop) : Prop :=
  ∀ σ B H, Sto B σ ρ → SInv w B H μ → ∀ Q : Str → Hp → Prop, (∀ out B' H' μ', SInv w B' H' μ' → Ex B B' → R out μ' → Q out H') → tJs (es.map (tE X)) acc σ H Q
theorem pj_self : ∀ es : List Expr, PJ X es (es.map (tE X))
  | [] => .nil
  | e :: es => .cons pe_self (pj_self es)
theorem dj_nil {acc : Str} {R : Str → Mus → Prop} (h : R acc μ) : DJ X w [] acc ρ μ R := fun σ B H S I Q k => k acc B H μ I (Ex.refl B) h
theorem dj_cons {acc : Str} {R : Str → Mus → Prop} (h : DE X w e ρ μ fun r μ1 => ∃ y, r = .dat (.str y) ∧ (acc ++ y).length ≤ sizeLine ∧ DJ X w es (acc ++ y) ρ μ1 R) : DJ X w (e :: es) acc ρ μ R := fun σ B H S I Q k =>
  h σ B H S I _ fun v r B1 H1 μ1 I1 e1 q1 h1 => by
    obtain ⟨y, rfl, hz, h1⟩ := h1
    cases q1
    exact ⟨y, rfl, hz, h1 σ B1 H1 (S.mono e1) I1 Q fun out B2 H2 μ2 I2 e2 h2 => k out B2 H2 μ2 I2 (e1.trans e2) h2⟩
theorem de_joined {e1 e2 : Expr} (h : DJ X w (e1 :: e2 :: es) Str.empty ρ μ fun out μ1 => R (.dat (.str out)) μ1) : DE X w (.JoinedStr (e1 :: e2 :: es) pos) ρ μ R := fun σ B H S I Q k =>
  tE_of (pe_joined (pj_self _)) (h σ B H S I _ fun out B1 H1 μ1 I1 ex h1 => k (.str out) (.dat (.str out)) B1 H1 μ1 I1 ex (Dq.str _) h1)
theorem de_fmt (h : DE X w e ρ μ fun r μ1 => (∃ y : Str, r = .dat (.str y) ∧ y.length ≤ sizeLine ∧ R (.dat (.str y)) μ1) ∨ ∃ i : Int, r = .dat (.int i) ∧ i.natAbs.log2 < 1920 ∧ R (.dat (.str (toString i))) μ1) : DE X w (.FormattedValue e (-1) none pos) ρ μ R := fun σ B H S I Q k =>
  tE_of (pe_fmt pe_self) (h σ B H S I _ fun v r B1 H1 μ1 I1 e1 q1 h1 => by
    rcases h1 with ⟨y, rfl, hz, h1⟩ | ⟨i, rfl, hz, h1⟩
    · cases q1
      exact .inl ⟨y, rfl, hz, k (.str y) (.dat (.str y)) B1 H1 μ1 I1 e1 (Dq.str _) h1⟩
    · cases q1
      exact .inr ⟨i, rfl, hz, k (.str _) (.dat (.str _)) B1 H1 μ1 I1 e1 (Dq.str _) h1⟩)
/-- f(k = e), f without a way out by an error -/
theorem de_kw1 {p kpos : Pos} {k : Nat} {f : Addr} {fd : FuncData} {nm : Str} {pre : List SV → Mus → Prop} {post : List SV → Mus → SV → Mus → Prop} (F : FnG X.prog X.w X.K X.mg X.base k f fd [nm] (GSp pre post)) (hr : Room k X.A) (hgd : X.A.guards = some []) (hm : X.mg x = some (.ref f)) (hk : PySem.W.keepIn X.K (.ref f) = true)
    (hb : ∀ (s : Shared) (u : Value), BindsTo s fd ⟨[], [(nm, u)]⟩ [(nm, u)]) (ha : DE X w e ρ μ fun r μ1 => pre [r] μ1 ∧ ∀ r' μ2, post [r] μ1 r' μ2 → R r' μ2) (hg : Gl X x := by rfl) (hdb : (x == ("__debug__" : Str)) = false := by decide)
    (hall : (backToKw pos (keywordEach [⟨some nm, e, kpos⟩] X.env)).all (·.1.isSome) = true := by rfl) (hks : (backToKw pos (keywordEach [⟨some nm, e, kpos⟩] X.env)).filterMap (·.1) = [nm] := by rfl)
    (hpl : ((backTo pos (starEach [] X.env)).any (·.1) || (backToKw pos (keywordEach [⟨some nm, e, kpos⟩] X.env)).any (·.1.isNone)) = false := by rfl) : DE X w (.Call (.Name x p) [] [⟨some nm, e, kpos⟩] pos) ρ μ R := fun σ B H S I Q kk pins s J => by
  refine wpAny_Call_Name_kw (ld_glob J hg hm ?_ hdb)
  refine PySem.W.callWith_KW0 (h₀ := X.base) J.ok.mod.kin hk hall ?_ hpl
  refine thn ((pk_cons (nm := some nm) (kpos := kpos) pe_self pk_nil).run pos pins s σ H (fun vs H1 => ∀ us s1, Inv X pins σ H1 s1 → Vals vs us → wpAny (model X.prog X.w) X.A (call (.ref f) ([] ++ []) ([nm].zip us)) (EP X pins σ Q) X.xe s1) J ?_) fun us s1 ⟨vs, H1, J1, rv, q⟩ => ⟨J1.kIn, ?_⟩
  · refine ha σ B H S I _ fun v r B1 H1 μ1 I1 e1 q1 h1 => ?_
    intro us s1 J1 rv
    cases rv with
    | @cons _ u _ _ r1 r2 =>
      cases r2
      have hsp : GSp pre post [v] H1 Q E0 := ⟨B1, [r], μ1, .cons q1 .nil, I1.bh, fun p o z => ⟨(I1.mus p o z).1, (I1.mus p o z).2.1⟩, h1.1, fun v r B' H' μ' L qv hp => kk v r B' H' μ' (I1.back L) (e1.trans L.b0) qv (h1.2 r μ' hp)⟩
      refine wpAny_call (codeAny_mono (F.run X.A X.stack s1 H1 ⟨[], [(nm, u)]⟩ [u] [v] Q E0 hr hgd J1.env0 (hb s1 u) (.cons r1 .nil) hsp) fun r s' hq => ?_)
      match r, hq with
      | .ok (.ret u), hq => exact J1.after hq
      | .ok .next, hq => exact hq.elim
      | .ok .brk, hq => exact hq.elim
      | .ok .cont, hq => exact hq.elim
      | .error _, hq => exact hq.elim
  · rw [hks]
    exact q us s1 J1 rv
/-- f(k = e), f one that may raise; here it does not, or the error is taken -/
theorem de_kwX {p kpos : Pos} {k : Nat} {f C : Addr} {fd : FuncData} {nm : Str} {W : WX} {pre : List SV → Mus → Prop} {post : List SV → Mus → SV → Mus → Prop} {exc : List SV → Mus → Prop} (F : FnX X.prog X.w X.K X.mg X.base k f fd [nm] (XSp C pre post exc)) (tk : Takes X W) (hr : Room k X.A) (hgd : X.A.guards = some []) (hm : X.mg x = some (.ref f)) (hk : PySem.W.keepIn X.K (.ref f) = true)
    (hb : ∀ (s : Shared) (u : Value), BindsTo s fd ⟨[], [(nm, u)]⟩ [(nm, u)]) (ha : DE X w e ρ μ fun r μ1 => pre [r] μ1 ∧ (∀ r' μ2, post [r] μ1 r' μ2 → R r' μ2) ∧ (exc [r] μ1 → ∀ σ B H, Sto B σ ρ → SInv w B H μ1 → W (.ref C) none σ H)) (hg : Gl X x := by rfl) (hdb : (x == ("__debug__" : Str)) = false := by decide)
    (hall : (backToKw pos (keywordEach [⟨some nm, e, kpos⟩] X.env)).all (·.1.isSome) = true := by rfl) (hks : (backToKw pos (keywordEach [⟨some nm, e, kpos⟩] X.env)).filterMap (·.1) = [nm] := by rfl)
    (hpl : ((backTo pos (starEach [] X.env)).any (·.1) || (backToKw pos (keywordEach [⟨some nm, e, kpos⟩] X.env)).any (·.1.isNone)) = false := by rfl) : DE X w (.Call (.Name x p) [] [⟨some nm, e, kpos⟩] pos) ρ μ R := fun σ B H S I Q kk pins s J => by
  refine wpAny_Call_Name_kw (ld_glob J hg hm ?_ hdb)
  refine PySem.W.callWith_KW0 (h₀ := X.base) J.ok.mod.kin hk hall ?_ hpl
  refine thn ((pk_cons (nm := some nm) (kpos := kpos) pe_self pk_nil).run pos pins s σ H (fun vs H1 => ∀ us s1, Inv X pins σ H1 s1 → Vals vs us → wpAny (model X.prog X.w) X.A (call (.ref f) ([] ++ []) ([nm].zip us)) (EP X pins σ Q) X.xe s1) J ?_) fun us s1 ⟨vs, H1, J1, rv, q⟩ => ⟨J1.kIn, ?_⟩
  · refine ha σ B H S I _ fun v r B1 H1 μ1 I1 e1 q1 h1 => ?_
    intro us s1 J1 rv
    cases rv with
    | @cons _ u _ _ r1 r2 =>
      cases r2
      have hsp : XSp C pre post exc [v] H1 Q (WE W σ) := ⟨B1, [r], μ1, .cons q1 .nil, I1.bh, fun p o z => ⟨(I1.mus p o z).1, (I1.mus p o z).2.1⟩, h1.1, fun v r B' H' μ' L qv hp => kk v r B' H' μ' (I1.back L) (e1.trans L.b0) qv (h1.2.1 r μ' hp),
        fun he B' H' L => h1.2.2 he σ B' H' (S.mono (e1.trans L.b0)) (I1.back L)⟩
      refine wpAny_call (codeAny_mono (F.run X.A X.stack s1 H1 ⟨[], [(nm, u)]⟩ [u] [v] Q (WE W σ) hr hgd J1.env0 (hb s1 u) (.cons r1 .nil) hsp) fun r s' hq => ?_)
      match r, hq with
      | .ok (.ret u), hq => exact J1.after hq
      | .ok .next, hq => exact hq.elim
      | .ok .brk, hq => exact hq.elim
      | .ok .cont, hq => exact hq.elim
      | .error u, hq => exact passAt tk σ pins H1 s1 u s' J1 hq
  · rw [hks]
    exact q us s1 J1 rv
end
end Dat

set_option Elab.async false
set_option linter.all false
set_option maxRecDepth 100000
set_option maxHeartbeats 4000000
namespace K18
open PySem PySem.Spec PyProof.Rows L2 Dat
def top (i : Nat) : Stmt := PySem.Challenge.pw_onefacers_k18_whos_and_ends_as_texts.main.body.getD i (.Pass ⟨0, 0, 0, 0⟩)
def ok1 (p : Dt → Prop) : List Dt → Prop := fun ds => ∃ d, ds = [d] ∧ p d
def re1 (f : Dt → Dt) : List Dt → Dt → Prop := fun ds r => ∃ d, ds = [d] ∧ r = f d
def Fi (d : Dt) : Prop := ∃ n, fine 1000 1000 n d
theorem Fi.notObj {d : Dt} (h : Fi d) : isObj' d = false := by
  obtain ⟨n, h⟩ := h
  cases d with
  | obj _ _ _ => cases n <;> exact h.elim
  | _ => rfl
theorem Fi.str {x : Str} (h : Fi (.str x)) : x.length ≤ 1000 ∧ ∀ c ∈ x.cps.toList, c < 256 := by
  obtain ⟨n, h⟩ := h
  cases n <;> exact h
theorem Fi.tup {xs : List Dt} (h : Fi (.tup xs)) : xs.length ≤ 1000 ∧ ∀ d, d ∈ xs → Fi d := by
  obtain ⟨n, h⟩ := h
  cases n with
  | zero => exact h.elim
  | succ n => exact ⟨h.1, fun d hd => ⟨n, h.2 d hd⟩⟩
section
variable {X : Cx} {w : Wd} {ρ : List SV} {μ : Mus} {R : SV → Mus → Prop} {e e2 e3 : Expr} {es : List Expr} {x : Str} {p pos : Pos} {j k : Nat}
theorem de_p1 {q : Dt → Prop} {f : Dt → Dt} (O : Own X.prog X.w X.K X.mg X.base x k (PSp (ok1 q) (re1 f))) (hr : Room j X.A) (hkj : k ≤ j) (hgd : X.A.guards = some [])
    (ha : DE X w e ρ μ fun r μ1 => ∃ d, r = .dat d ∧ q d ∧ R (.dat (f d)) μ1) (hg : Gl X x := by rfl) (hdb : (x == ("__debug__" : Str)) = false := by decide)
    (he : starEach [e] X.env = (false, eval e X.env) :: starEach [] X.env := by rfl) (hpl : (backTo pos (starEach [] X.env)).any (·.1) = false := by rfl) : DE X w (.Call (.Name x p) [e] [] pos) ρ μ R :=
  de_pure O hr hkj hgd (da_cons (hs := he) (ha.imp fun r μ1 ⟨d, e1, h1, h2⟩ => da_nil (by subst e1; exact ⟨_, rfl, ⟨_, rfl, h1⟩, fun d' ⟨_, e3, e4⟩ => by cases e3; subst e4; exact h2⟩))) hg hdb he hpl
end
section
variable (P : Program) (w : World) (K : PySem.W.Frag) (mg : Str → Option Value) (base : Heap)
structure Txt : Prop where
  isi : mg "isinstance" = none
  int : mg "int" = none
  bool : mg "bool" = none
  str : mg "str" = none
  tup : mg "tuple" = none
  list : mg "list" = none
  len : mg "len" = none
  all : mg "all" = none
  max : mg "max" = none
  min : mg "min" = none
  repr : mg "repr" = none
  range : mg "range" = none
  divmod : mg "divmod" = none
  letters : ∃ t, mg "MOST_LETTERS" = some (.int 8 t)
  figs : ∃ t, mg "MOST_FIGURES" = some (.int 30 t)
  last : ∃ t, mg "LAST_PLACE" = some (.int 11 t)
  valerr : mg "ValueError" = none
  dict : mg "dict" = none
end
/-! what the looks say -/
def wholeD (d : Dt) : Bool := isInt d && !isBl d
def low (c : Nat) : Bool := decide (97 ≤ c) && decide (c ≤ 122)
def nameD : Dt → Bool
  | .str x => decide (1 ≤ x.length) && decide (x.length ≤ 8) && x.cps.toList.all low
  | _ => false
def lotsGo : Int → List Dt → Bool
  | _, [] => true
  | f, .int n :: ds => decide (0 ≤ n) && decide (n ≤ f) && lotsGo (max f (n + 1)) ds
  | _, _ :: _ => false
def lotsD : Dt → Bool
  | .tup xs => decide (xs.length ≤ 6) && lotsGo 0 xs
  | _ => false
def inD (lo hi : Int) : Dt → Bool
  | .int n => decide (lo ≤ n) && decide (n ≤ hi)
  | _ => false
def whoD : Dt → Bool
  | .tup (d :: ds) => nameD d && ds.all (inD 0 11)
  | _ => false
def spWhole : Sp := PSp (ok1 Fi) (re1 fun d => .bl (wholeD d))
def spName : Sp := PSp (ok1 Fi) (re1 fun d => .bl (nameD d))
def spLots : Sp := PSp (ok1 Fi) (re1 fun d => .bl (lotsD d))
def spPlace : Sp := PSp (ok1 Fi) (re1 fun d => .bl (inD 0 11 d))
def spWho : Sp := PSp (ok1 Fi) (re1 fun d => .bl (whoD d))
def signD : Dt → Bool
  | .str z => z.cps.toList.all low
  | _ => false
theorem signs_all (x : Str) : ((Dat.signs x).map signD).all id = x.cps.toList.all low := by
  unfold Dat.signs
  rw [List.map_map, List.all_map]
  congr 1
  funext c
  simp [signD]
theorem atI_nat (ds : List Dt) (n : Nat) (d : Dt) (h : ds[n]? = some d) : atI ds (n : Int) = some d := by
  have hn : n < ds.length := (List.getElem?_eq_some_iff.mp h).1
  unfold atI ixN
  rw [if_pos (by omega), if_pos (by omega)]
  exact h
theorem atI_head (d : Dt) (ds : List Dt) : atI (d :: ds) 0 = some d := atI_nat _ 0 _ rfl
theorem atI_last (ds : List Dt) (n : Int) (d : Dt) (h0 : 0 ≤ n) (h : ds[n.toNat]? = some d) : atI ds n = some d := by
  have := atI_nat ds n.toNat d h
  rwa [Int.toNat_of_nonneg h0] at this
theorem cut_tail (d : Dt) (ds : List Dt) : Dat.cutD (d :: ds) (some 1) none = ds := by
  have e : min (Int.toNat 1) (ds.length + 1) = 1 := by
    show min 1 (ds.length + 1) = 1
    omega
  simp [Dat.cutD, HT.sIx, e]
theorem six_nat (N d n : Nat) (h : n ≤ N) : HT.sIx N d (some (n : Int)) = n := by
  show (if (n : Int) < 0 then ((n : Int) + N).toNat else min (n : Int).toNat N) = n
  rw [if_neg (by omega), Int.toNat_natCast, Nat.min_eq_left h]
theorem cut_to (ds : List Dt) (n : Nat) (h : n ≤ ds.length) : Dat.cutD ds none (some (n : Int)) = ds.take n := by
  unfold Dat.cutD
  rw [six_nat _ _ _ h]
  rfl
theorem cut_from (ds : List Dt) (n : Nat) (h : n ≤ ds.length) : Dat.cutD ds (some (n : Int)) none = ds.drop n := by
  unfold Dat.cutD
  rw [six_nat _ _ _ h]
  exact List.take_of_length_le (by rw [List.length_drop]; exact Nat.le_refl _)
end K18

set_option Elab.async false
set_option linter.all false
set_option maxRecDepth 100000
set_option maxHeartbeats 4000000
namespace K18
open PySem PySem.Spec PyProof.Rows L2 Dat
local macro_rules
  | `(tactic| walk_at "down") => `(tactic| fail "none")
local macro_rules
  | `(tactic| walk_at "dset") => `(tactic| fail "none")
local macro_rules
  | `(tactic| walk_at "dhook") => `(tactic| fail "none")
local macro_rules
  | `(tactic| walk_at "dca") => `(tactic| fail "none")
local macro_rules
  | `(tactic| walk_at "dlst") => `(tactic| refine de_lst ?_)
local macro_rules
  | `(tactic| walk_at "dstep") => `(tactic| first
    | ((with_reducible show DE _ _ _ _ _ _); first | ((with_reducible show DE _ _ (Expr.Name _ _) _ _ _); first | ((with_reducible show DE _ _ (Expr.Name "int" _) _ _ _); refine de_ty_int (by assumption) ?_) | ((with_reducible show DE _ _ (Expr.Name "str" _) _ _ _); refine de_ty_str (by assumption) ?_) | ((with_reducible show DE _ _ (Expr.Name "bool" _) _ _ _); refine de_ty_bool (by assumption) ?_) | ((with_reducible show DE _ _ (Expr.Name "tuple" _) _ _ _); refine de_ty_tuple (by assumption) ?_) | ((with_reducible show DE _ _ (Expr.Name "list" _) _ _ _); refine de_ty_list (by assumption) ?_) | ((with_reducible show DE _ _ (Expr.Name "dict" _) _ _ _); refine de_ty_dict (by assumption) ?_) | refine de_nm rfl ?_ | refine de_globI (by assumption) ?_) | ((with_reducible show DE _ _ (Expr.Constant _ _ _) _ _ _); first | refine de_int ?_ | refine de_str ?_ | refine de_bl ?_ | refine de_non ?_) | ((with_reducible show DE _ _ (Expr.Call (Expr.Name _ _) _ _ _) _ _ _); first | ((with_reducible show DE _ _ (Expr.Call (Expr.Name "isinstance" _) _ _ _) _ _ _); refine de_isinstance ?_ (by assumption)) | ((with_reducible show DE _ _ (Expr.Call (Expr.Name "len" _) _ _ _) _ _ _); refine de_len ?_ (by assumption)) | ((with_reducible show DE _ _ (Expr.Call (Expr.Name "max" _) _ _ _) _ _ _); refine de_max ?_ (by assumption)) | ((with_reducible show DE _ _ (Expr.Call (Expr.Name "min" _) _ _ _) _ _ _); refine de_min ?_ (by assumption)) | ((with_reducible show DE _ _ (Expr.Call (Expr.Name "all" _) _ _ _) _ _ _); refine de_all ?_ (by assumption)) | ((with_reducible show DE _ _ (Expr.Call (Expr.Name "repr" _) _ _ _) _ _ _); refine de_repr ?_ (by assumption)) | ((with_reducible show DE _ _ (Expr.Call (Expr.Name "divmod" _) _ _ _) _ _ _); refine de_divmod ?_ (by assumption)) | ((with_reducible show DE _ _ (Expr.Call (Expr.Name "list" _) _ _ _) _ _ _); refine de_clist ?_ (by assumption)) | ((with_reducible show DE _ _ (Expr.Call (Expr.Name "tuple" _) _ _ _) _ _ _); refine de_ctuple ?_ (by assumption)) | walk_at "down") | ((with_reducible show DE _ _ (Expr.BinOp _ _ _ _) _ _ _); refine de_op ?_) | ((with_reducible show DE _ _ (Expr.Compare _ [_] _ _) _ _ _); refine de_cmp ?_) | ((with_reducible show DE _ _ (Expr.Compare _ [_, _] _ _) _ _ _); refine de_chain ?_) | ((with_reducible show DE _ _ (Expr.Subscript _ (Expr.Slice _ _ _ _) _) _ _ _); refine de_slice ?_) | ((with_reducible show DE _ _ (Expr.Subscript _ _ _) _ _ _); refine de_ix ?_) | ((with_reducible show DE _ _ (Expr.BoolOp _ [_] _) _ _ _); refine de_one ?_) | ((with_reducible show DE _ _ (Expr.BoolOp BoolOp.And _ _) _ _ _); refine de_and ?_) | ((with_reducible show DE _ _ (Expr.BoolOp BoolOp.Or _ _) _ _ _); refine de_or ?_) | ((with_reducible show DE _ _ (Expr.UnaryOp UnaryOp.Not _ _) _ _ _); refine de_not ?_) | ((with_reducible show DE _ _ (Expr.UnaryOp _ _ _) _ _ _); refine de_un ?_) | ((with_reducible show DE _ _ (Expr.IfExp _ _ _ _) _ _ _); refine de_ifx ?_) | ((with_reducible show DE _ _ (Expr.Tuple _ _ _) _ _ _); refine de_tup ?_) | ((with_reducible show DE _ _ (Expr.List _ _) _ _ _); walk_at "dlst") | ((with_reducible show DE _ _ (Expr.Dict [] [] _) _ _ _); refine de_dict0 ?_) | walk_at "dhook")
    | ((with_reducible show DA _ _ _ _ _ _); first | ((with_reducible show DA _ _ [] _ _ _); refine da_nil ?_) | ((with_reducible show DA _ _ (_ :: _) _ _ _); refine da_cons ?_))
    | ((with_reducible show BoolR _ _); refine ⟨_, rfl, ?_⟩)
    | ((with_reducible show (_ = true → _) ∧ (_ = false → _)); (refine ⟨fun h => ?_, fun h => ?_⟩ <;> try (exact Bool.noConfusion h)))
    | ((with_reducible show OpD _ _ _ _ _ _ _); first | ((with_reducible show OpD _ _ (binaryOp Operator.Add) _ _ _ _); first | refine op_addI ?_ | refine op_addT ?_) | ((with_reducible show OpD _ _ (binaryOp Operator.Sub) _ _ _ _); refine op_subI ?_) | ((with_reducible show OpD _ _ (binaryOp Operator.Mod) _ _ _ _); refine op_modI (by first | decide | assumption) ?_) | ((with_reducible show OpD _ _ (binaryOp Operator.Mult) _ _ _ _); refine op_mulI (by first | exact .inr (by decide) | exact .inl (by decide) | (exact .inl (by omega))) ?_) | ((with_reducible show OpD _ _ (binaryOp Operator.Pow) _ _ _ _); refine op_powI (by decide) (by decide) (by decide) ?_) | ((with_reducible show OpD _ _ (binaryOp Operator.FloorDiv) _ _ _ _); refine op_fdivI (by decide) (by decide) ?_) | ((with_reducible show OpD _ _ (compareOp CmpOp.Lt) _ _ _ _); refine op_ltI ?_) | ((with_reducible show OpD _ _ (compareOp CmpOp.LtE) _ _ _ _); first | refine op_leI ?_ | refine op_leS ?_) | ((with_reducible show OpD _ _ (compareOp CmpOp.Gt) _ _ _ _); refine op_gtI ?_) | ((with_reducible show OpD _ _ (compareOp CmpOp.GtE) _ _ _ _); refine op_geI ?_) | ((with_reducible show OpD _ _ (compareOp CmpOp.Eq) _ _ _ _); first | refine op_eqI ?_ | refine op_eqS ?_) | ((with_reducible show OpD _ _ (compareOp CmpOp.NotEq) _ _ _ _); first | refine op_neI ?_ | refine op_neS ?_))
    | ((with_reducible show CaD _ _ _ _ _ _); first | ((with_reducible show CaD _ _ (Value.builtin "isinstance") [_, SV.ty "int"] _ _); refine ca_isi (by assumption) (kit_int _ (by assumption)) ?_) | ((with_reducible show CaD _ _ (Value.builtin "isinstance") [_, SV.ty "bool"] _ _); refine ca_isi (by assumption) (kit_bool _ (by assumption)) ?_) | ((with_reducible show CaD _ _ (Value.builtin "isinstance") [_, SV.ty "str"] _ _); refine ca_isi (by assumption) (kit_str _ (by assumption)) ?_) | ((with_reducible show CaD _ _ (Value.builtin "isinstance") [_, SV.ty "tuple"] _ _); refine ca_isi (by assumption) (kit_tuple _ (by assumption)) ?_) | ((with_reducible show CaD _ _ (Value.builtin "isinstance") [_, SV.ty "list"] _ _); refine ca_isi (by assumption) (kit_list _ (by assumption)) ?_) | ((with_reducible show CaD _ _ (Value.builtin "isinstance") [_, SV.ty "dict"] _ _); refine ca_isi (by assumption) (kit_dict _ (by assumption)) ?_) | ((with_reducible show CaD _ _ (Value.builtin "max") _ _ _); refine ca_max2 rfl ?_) | ((with_reducible show CaD _ _ (Value.builtin "min") _ _ _); refine ca_min2 rfl ?_) | ((with_reducible show CaD _ _ (Value.builtin "len") _ _ _); first | refine ca_lenT ?_ | refine ca_lenS (by assumption) ?_ | refine ca_lenSc ?_ | refine ca_lenL (.inl rfl) ?_) | ((with_reducible show CaD _ _ (Value.type "list") _ _ _); refine ca_listT ?_) | ((with_reducible show CaD _ _ (Value.builtin "divmod") _ _ _); refine ca_divmod (by assumption) (by omega) ?_) | walk_at "dca")
    | ((with_reducible show DT _ _ _ _ _ _); first | ((with_reducible show DT _ _ (Expr.BoolOp _ _ _) _ _ _); refine dt_w ?_) | ((with_reducible show DT _ _ (Expr.UnaryOp UnaryOp.Not _ _) _ _ _); refine dt_not ?_) | ((with_reducible show DT _ _ (Expr.Compare _ [_] _ _) _ _ _); refine dt_cmp ?_) | ((with_reducible show DT _ _ (Expr.Compare _ [_, _] _ _) _ _ _); refine dt_chain ?_) | refine dt_val ?_)
    | ((with_reducible show DW _ _ _ _ _ _); first | ((with_reducible show DW _ _ (Expr.BoolOp BoolOp.And [_] _) _ _ _); refine dw_and1 ?_) | ((with_reducible show DW _ _ (Expr.BoolOp BoolOp.Or [_] _) _ _ _); refine dw_or1 ?_) | ((with_reducible show DW _ _ (Expr.BoolOp BoolOp.And _ _) _ _ _); refine dw_and ?_) | ((with_reducible show DW _ _ (Expr.BoolOp BoolOp.Or _ _) _ _ _); refine dw_or ?_))
    | ((with_reducible show DSs _ _ _ _ _ _); first | ((with_reducible show DSs _ _ [] _ _ _); refine dss_nil ?_) | ((with_reducible show DSs _ _ [_] _ _ _); refine dss_one ?_) | ((with_reducible show DSs _ _ (_ :: _) _ _ _); refine dss_cons ?_))
    | ((with_reducible show DS _ _ _ _ _ _); first | ((with_reducible show DS _ _ (Stmt.Return (some _) _) _ _ _); refine ds_ret ?_) | ((with_reducible show DS _ _ (Stmt.If _ _ _ _) _ _ _); refine ds_if ?_) | ((with_reducible show DS _ _ (Stmt.Expr _ _) _ _ _); refine ds_expr ?_) | ((with_reducible show DS _ _ (Stmt.Assign [Expr.Name _ _] _ _) _ _ _); walk_at "dset"))
    | ((with_reducible show DP _ _ none _ _ _); refine dp_none ?_)
    | ((with_reducible show DP _ _ (some _) _ _ _); refine dp_some ?_)
    | ((with_reducible show ∃ d, SV.dat _ = SV.dat d ∧ Fi d ∧ _); refine ⟨_, rfl, by assumption, ?_⟩)
    | ((with_reducible show ∃ i, SV.dat (Dt.int _) = SV.dat (Dt.int i) ∧ _); refine ⟨_, rfl, ?_⟩)
    | ((with_reducible show SlD _ _ (SV.dat (Dt.tup _)) _ _ _ _); refine sl_dT ?_)
    | ((with_reducible show ∃ ds, undat _ = some ds ∧ ds.length ≤ 1000 ∧ _); refine ⟨_, rfl, Nat.le_of_ble_eq_true rfl, ?_⟩)
    | ((with_reducible show ∃ q, SV.at _ = SV.at q ∧ _); refine ⟨_, rfl, ?_⟩)
    | ((with_reducible show ∃ z, SV.dat (Dt.str _) = SV.dat (Dt.str z) ∧ _); refine ⟨_, rfl, ?_⟩)
    | ((with_reducible show IxD _ _ (SV.at _) (SV.dat (Dt.int 0)) _ _); refine ix_pot0 (by assumption) (fun _ _ => ?_))
    | ((with_reducible show IxD _ _ (SV.at _) (SV.dat (Dt.int 1)) _ _); refine ix_pot1 (by assumption) (fun _ _ _ => ?_))
    | ((with_reducible show UnD _ _ (unaryOp UnaryOp.USub) _ _ _); refine un_negI ?_)
    | ((with_reducible show Po.nx _ _ _); dsimp only)
    | ((with_reducible show Po.rt _ _ _); dsimp only))
local macro_rules
  | `(tactic| walk_at "drun") => `(tactic| repeat' (walk_at "dstep"))

section
variable {P : Program} {w : World} {K : PySem.W.Frag} {mg : Str → Option Value} {base : Heap}
/-! ### is_whole -/
abbrev sWhole : Stmt := top 7
theorem scWhole : FnScope ["thing"] ["thing"] (defScope sWhole) := ⟨rfl, rfl, rfl, by decide +kernel, rfl, by decide +kernel, by decide +kernel⟩
theorem ok_whole {f : Addr} {fd : FuncData} (F : Fun K "is_whole" "is_whole" sWhole f fd) (T : Txt mg) : FnG P w K mg base 1 f fd ["thing"] spWhole := by
  refine fn_pure F scWhole (fun ds ⟨d, e, _⟩ => by rw [e]; rfl) fun cdv A outer s H hr hg w' ds μ ⟨d, e, hd⟩ => ?_
  subst e
  have ho := hd.notObj
  obtain ⟨t1, t2, t3, t4, t5, t6, t7, t8, t9, t10, t11, t12, t13, t14, t15, t16, t17, t18⟩ := T
  refine dss_one (ds_ret (de_and ?_))
  walk_at "drun"
  · refine ⟨_, rfl, ⟨d, rfl, ?_⟩, Mus.Sub.refl _⟩
    simp [wholeD, *]
  · refine ⟨_, rfl, ⟨d, rfl, ?_⟩, Mus.Sub.refl _⟩
    simp [wholeD, *]
/-! ### is_name -/
abbrev sName : Stmt := top 8
theorem scName : FnScope ["thing", "sign"] ["thing"] (defScope sName) := ⟨rfl, rfl, rfl, by decide +kernel, rfl, by decide +kernel, by decide +kernel⟩
theorem ok_name {f : Addr} {fd : FuncData} (F : Fun K "is_name" "is_name" sName f fd) (T : Txt mg) : FnG P w K mg base 1 f fd ["thing"] spName := by
  refine fn_pure F scName (fun ds ⟨d, e, _⟩ => by rw [e]; rfl) fun cdv A outer s H hr hg w' ds μ ⟨d, e, hd⟩ => ?_
  subst e
  have ho := hd.notObj
  obtain ⟨t1, t2, t3, t4, t5, t6, t7, t8, t9, t10, t11, t12, t13, t14, t15, t16, t17, t18⟩ := T
  refine dss_cons ?_
  by_cases hs : isStr d = true
  · cases d with
    | str x =>
      have hx := hd.str
      have hz : x.length ≤ sizeLine := small_ok (by omega)
      walk_at "drun"
      · rename_i h1 h2 h3
        refine ⟨_, rfl, ⟨_, rfl, ?_⟩, Mus.Sub.refl _⟩
        have : ¬ x.length ≤ 8 := by have := of_decide_eq_false (Bool.not_eq_true' _ ▸ h3); omega
        simp [nameD, this]
      · rename_i h1 h2 h3
        refine de_lc 1 rfl (by show List.Nodup (["thing", "sign"] : List Str); decide +kernel) (blkOk_by (N := ["thing", "sign"]) (sc := defScope sName) (by decide +kernel)) ?_
        refine di_str (de_nm rfl ⟨_, rfl, ?_⟩)
        refine lc_map (fun d => .bl (signD d)) (by rw [signs_len]; omega) ?_ ?_
        · intro d hd w' k
          obtain ⟨c, hc, rfl⟩ := signs_mem hd
          have e1 : (⟨#[c]⟩ : Str).cps.toList = [c] := rfl
          have e2 : ("a" : Str).cps.toList = [97] := rfl
          have e3 : ("z" : Str).cps.toList = [122] := rfl
          walk_at "drun"
          · refine ⟨?_, rfl⟩
            rename_i g1
            rw [e1, e2, lt_sign] at g1
            rw [e1, e3, lt_sign]
            have g2 : 97 ≤ c := by simpa using g1
            have g3 : (!decide (122 < c)) = decide (c ≤ 122) := by
              rw [Bool.eq_iff_iff]; simp
            simp [signD, low, g2, g3]
          · refine ⟨?_, rfl⟩
            rename_i g1
            rw [e1, e2, lt_sign] at g1
            have g2 : ¬ 97 ≤ c := by simpa using g1
            simp [signD, low, g2]
        · refine da_nil (ca_all rfl (bs := (Dat.signs x).map signD) (.inl (by rw [List.map_map]; rfl)) ?_)
          refine ⟨_, rfl, ⟨_, rfl, ?_⟩, Mus.Sub.refl _⟩
          rw [signs_all]
          have g1 : 1 ≤ x.length := by have := of_decide_eq_true h2; omega
          have g2 : x.length ≤ 8 := by have := of_decide_eq_true (Bool.not_eq_false' _ ▸ h3); omega
          simp [nameD, g1, g2]
      · rename_i h1 h2 h3
        refine ⟨_, rfl, ⟨_, rfl, ?_⟩, Mus.Sub.refl _⟩
        have : ¬ 1 ≤ x.length := by have := of_decide_eq_false h2; omega
        simp [nameD, this]
    | _ => simp [isStr] at hs
  · have hs' : (!isStr d) = true := by simpa using hs
    walk_at "drun"
    · refine ⟨_, rfl, ⟨_, rfl, ?_⟩, Mus.Sub.refl _⟩
      cases d with
      | str x => simp [isStr] at hs
      | _ => rfl
    all_goals exact absurd hs' (by simp_all)
set_option hygiene false in
local macro_rules
  | `(tactic| walk_at "down") => `(tactic| first | ((with_reducible show DE _ _ (Expr.Call (Expr.Name "is_whole" _) _ _ _) _ _ _); refine de_p1 oWhole hr (by decide) hg ?_) | ((with_reducible show DE _ _ (Expr.Call (Expr.Name "is_name" _) _ _ _) _ _ _); refine de_p1 oName hr (by decide) hg ?_) | ((with_reducible show DE _ _ (Expr.Call (Expr.Name "is_place" _) _ _ _) _ _ _); refine de_p1 oPlace hr (by decide) hg ?_))
/-! ### is_place -/
abbrev sPlace : Stmt := top 9
theorem scPlace : FnScope ["thing"] ["thing"] (defScope sPlace) := ⟨rfl, rfl, rfl, by decide +kernel, rfl, by decide +kernel, by decide +kernel⟩
theorem ok_place {f : Addr} {fd : FuncData} (F : Fun K "is_place" "is_place" sPlace f fd) (T : Txt mg) (oWhole : Own P w K mg base "is_whole" 1 spWhole) : FnG P w K mg base 2 f fd ["thing"] spPlace := by
  refine fn_pure F scPlace (fun ds ⟨d, e, _⟩ => by rw [e]; rfl) fun cdv A outer s H hr hg w' ds μ ⟨d, e, hd⟩ => ?_
  subst e
  have ho := hd.notObj
  obtain ⟨t1, t2, t3, t4, t5, t6, t7, t8, t9, t10, t11, t12, t13, t14, t15, t16, t17, t18⟩ := T
  refine dss_one ?_
  cases d with
  | int n =>
    walk_at "drun"
    · refine ⟨_, rfl, ⟨_, rfl, ?_⟩, Mus.Sub.refl _⟩
      rename_i h1 h2
      simp [inD, of_decide_eq_true h2]
    · refine ⟨_, rfl, ⟨_, rfl, ?_⟩, Mus.Sub.refl _⟩
      rename_i h1 h2
      have : ¬ 0 ≤ n := of_decide_eq_false h2
      simp [inD, this]
  | obj _ _ _ => exact Bool.noConfusion ho
  | _ => walk_at "drun" <;> exact ⟨_, rfl, ⟨_, rfl, rfl⟩, Mus.Sub.refl _⟩
/-! ### is_who -/
abbrev sWho : Stmt := top 10
theorem scWho : FnScope ["thing", "part"] ["thing"] (defScope sWho) := ⟨rfl, rfl, rfl, by decide +kernel, rfl, by decide +kernel, by decide +kernel⟩
theorem ok_who {f : Addr} {fd : FuncData} (F : Fun K "is_who" "is_who" sWho f fd) (T : Txt mg) (oName : Own P w K mg base "is_name" 1 spName) (oPlace : Own P w K mg base "is_place" 2 spPlace) : FnG P w K mg base 3 f fd ["thing"] spWho := by
  refine fn_pure F scWho (fun ds ⟨d, e, _⟩ => by rw [e]; rfl) fun cdv A outer s H hr hg w' ds μ ⟨d, e, hd⟩ => ?_
  subst e
  have ho := hd.notObj
  obtain ⟨t1, t2, t3, t4, t5, t6, t7, t8, t9, t10, t11, t12, t13, t14, t15, t16, t17, t18⟩ := T
  have hN : (["thing", "part"] : List Str).Nodup := by decide +kernel
  cases d with
  | tup xs =>
    cases xs with
    | nil =>
      refine dss_cons ?_
      walk_at "drun"
      · exact ⟨_, rfl, ⟨_, rfl, rfl⟩, Mus.Sub.refl _⟩
    | cons d ds =>
      have hx := hd.tup
      have hfd := hx.2 d List.mem_cons_self
      have hl := hx.1
      rw [List.length_cons] at hl
      refine dss_cons ?_
      walk_at "drun"
      refine ix_dT (atI_head d ds) ?_
      walk_at "drun"
      · rename_i h3
        refine de_lc 1 rfl hN (blkOk_by (N := ["thing", "part"]) (sc := defScope sWho) (by decide +kernel)) ?_
        refine di_tup ?_
        walk_at "drun"
        rw [cut_tail]
        refine ⟨_, rfl, lc_map (fun d => .bl (inD 0 11 d)) (by omega) ?_ ?_⟩
        · intro d' hd' w' k
          have hf' := hx.2 d' (List.mem_cons_of_mem _ hd')
          walk_at "drun"
          exact ⟨rfl, rfl⟩
        · walk_at "drun"
          refine ca_all rfl (bs := ds.map (inD 0 11)) (.inl (by rw [List.map_map]; rfl)) ?_
          refine ⟨_, rfl, ⟨_, rfl, ?_⟩, Mus.Sub.refl _⟩
          simp [whoD, h3, List.all_map]
      · rename_i h3
        refine ⟨_, rfl, ⟨_, rfl, ?_⟩, Mus.Sub.refl _⟩
        simp [whoD, h3]
  | obj _ _ _ => exact Bool.noConfusion ho
  | _ =>
    refine dss_cons ?_
    walk_at "drun"
    all_goals exact ⟨_, rfl, ⟨_, rfl, rfl⟩, Mus.Sub.refl _⟩
end
end K18

set_option Elab.async false
set_option linter.all false
set_option maxRecDepth 100000
set_option maxHeartbeats 4000000
namespace K18
open PySem PySem.Spec PyProof.Rows L2 Dat
local macro_rules
  | `(tactic| walk_at "down") => `(tactic| fail "none")
local macro_rules
  | `(tactic| walk_at "dset") => `(tactic| fail "none")
local macro_rules
  | `(tactic| walk_at "dhook") => `(tactic| fail "none")
local macro_rules
  | `(tactic| walk_at "dca") => `(tactic| fail "none")
local macro_rules
  | `(tactic| walk_at "dlst") => `(tactic| refine de_lst ?_)
local macro_rules
  | `(tactic| walk_at "dstep") => `(tactic| first
    | ((with_reducible show DE _ _ _ _ _ _); first | ((with_reducible show DE _ _ (Expr.Name _ _) _ _ _); first | ((with_reducible show DE _ _ (Expr.Name "int" _) _ _ _); refine de_ty_int (by assumption) ?_) | ((with_reducible show DE _ _ (Expr.Name "str" _) _ _ _); refine de_ty_str (by assumption) ?_) | ((with_reducible show DE _ _ (Expr.Name "bool" _) _ _ _); refine de_ty_bool (by assumption) ?_) | ((with_reducible show DE _ _ (Expr.Name "tuple" _) _ _ _); refine de_ty_tuple (by assumption) ?_) | ((with_reducible show DE _ _ (Expr.Name "list" _) _ _ _); refine de_ty_list (by assumption) ?_) | ((with_reducible show DE _ _ (Expr.Name "dict" _) _ _ _); refine de_ty_dict (by assumption) ?_) | refine de_nm rfl ?_ | refine de_globI (by assumption) ?_) | ((with_reducible show DE _ _ (Expr.Constant _ _ _) _ _ _); first | refine de_int ?_ | refine de_str ?_ | refine de_bl ?_ | refine de_non ?_) | ((with_reducible show DE _ _ (Expr.Call (Expr.Name _ _) _ _ _) _ _ _); first | ((with_reducible show DE _ _ (Expr.Call (Expr.Name "isinstance" _) _ _ _) _ _ _); refine de_isinstance ?_ (by assumption)) | ((with_reducible show DE _ _ (Expr.Call (Expr.Name "len" _) _ _ _) _ _ _); refine de_len ?_ (by assumption)) | ((with_reducible show DE _ _ (Expr.Call (Expr.Name "max" _) _ _ _) _ _ _); refine de_max ?_ (by assumption)) | ((with_reducible show DE _ _ (Expr.Call (Expr.Name "min" _) _ _ _) _ _ _); refine de_min ?_ (by assumption)) | ((with_reducible show DE _ _ (Expr.Call (Expr.Name "all" _) _ _ _) _ _ _); refine de_all ?_ (by assumption)) | ((with_reducible show DE _ _ (Expr.Call (Expr.Name "repr" _) _ _ _) _ _ _); refine de_repr ?_ (by assumption)) | ((with_reducible show DE _ _ (Expr.Call (Expr.Name "divmod" _) _ _ _) _ _ _); refine de_divmod ?_ (by assumption)) | ((with_reducible show DE _ _ (Expr.Call (Expr.Name "list" _) _ _ _) _ _ _); refine de_clist ?_ (by assumption)) | ((with_reducible show DE _ _ (Expr.Call (Expr.Name "tuple" _) _ _ _) _ _ _); refine de_ctuple ?_ (by assumption)) | walk_at "down") | ((with_reducible show DE _ _ (Expr.BinOp _ _ _ _) _ _ _); refine de_op ?_) | ((with_reducible show DE _ _ (Expr.Compare _ [_] _ _) _ _ _); refine de_cmp ?_) | ((with_reducible show DE _ _ (Expr.Compare _ [_, _] _ _) _ _ _); refine de_chain ?_) | ((with_reducible show DE _ _ (Expr.Subscript _ (Expr.Slice _ _ _ _) _) _ _ _); refine de_slice ?_) | ((with_reducible show DE _ _ (Expr.Subscript _ _ _) _ _ _); refine de_ix ?_) | ((with_reducible show DE _ _ (Expr.BoolOp _ [_] _) _ _ _); refine de_one ?_) | ((with_reducible show DE _ _ (Expr.BoolOp BoolOp.And _ _) _ _ _); refine de_and ?_) | ((with_reducible show DE _ _ (Expr.BoolOp BoolOp.Or _ _) _ _ _); refine de_or ?_) | ((with_reducible show DE _ _ (Expr.UnaryOp UnaryOp.Not _ _) _ _ _); refine de_not ?_) | ((with_reducible show DE _ _ (Expr.UnaryOp _ _ _) _ _ _); refine de_un ?_) | ((with_reducible show DE _ _ (Expr.IfExp _ _ _ _) _ _ _); refine de_ifx ?_) | ((with_reducible show DE _ _ (Expr.Tuple _ _ _) _ _ _); refine de_tup ?_) | ((with_reducible show DE _ _ (Expr.List _ _) _ _ _); walk_at "dlst") | ((with_reducible show DE _ _ (Expr.Dict [] [] _) _ _ _); refine de_dict0 ?_) | walk_at "dhook")
    | ((with_reducible show DA _ _ _ _ _ _); first | ((with_reducible show DA _ _ [] _ _ _); refine da_nil ?_) | ((with_reducible show DA _ _ (_ :: _) _ _ _); refine da_cons ?_))
    | ((with_reducible show BoolR _ _); refine ⟨_, rfl, ?_⟩)
    | ((with_reducible show (_ = true → _) ∧ (_ = false → _)); (refine ⟨fun h => ?_, fun h => ?_⟩ <;> try (exact Bool.noConfusion h)))
    | ((with_reducible show OpD _ _ _ _ _ _ _); first | ((with_reducible show OpD _ _ (binaryOp Operator.Add) _ _ _ _); first | refine op_addI ?_ | refine op_addT ?_) | ((with_reducible show OpD _ _ (binaryOp Operator.Sub) _ _ _ _); refine op_subI ?_) | ((with_reducible show OpD _ _ (binaryOp Operator.Mod) _ _ _ _); refine op_modI (by first | decide | assumption) ?_) | ((with_reducible show OpD _ _ (binaryOp Operator.Mult) _ _ _ _); refine op_mulI (by first | exact .inr (by decide) | exact .inl (by decide) | (exact .inl (by omega))) ?_) | ((with_reducible show OpD _ _ (binaryOp Operator.Pow) _ _ _ _); refine op_powI (by decide) (by decide) (by decide) ?_) | ((with_reducible show OpD _ _ (binaryOp Operator.FloorDiv) _ _ _ _); refine op_fdivI (by decide) (by decide) ?_) | ((with_reducible show OpD _ _ (compareOp CmpOp.Lt) _ _ _ _); refine op_ltI ?_) | ((with_reducible show OpD _ _ (compareOp CmpOp.LtE) _ _ _ _); first | refine op_leI ?_ | refine op_leS ?_) | ((with_reducible show OpD _ _ (compareOp CmpOp.Gt) _ _ _ _); refine op_gtI ?_) | ((with_reducible show OpD _ _ (compareOp CmpOp.GtE) _ _ _ _); refine op_geI ?_) | ((with_reducible show OpD _ _ (compareOp CmpOp.Eq) _ _ _ _); first | refine op_eqI ?_ | refine op_eqS ?_) | ((with_reducible show OpD _ _ (compareOp CmpOp.NotEq) _ _ _ _); first | refine op_neI ?_ | refine op_neS ?_))
    | ((with_reducible show CaD _ _ _ _ _ _); first | ((with_reducible show CaD _ _ (Value.builtin "isinstance") [_, SV.ty "int"] _ _); refine ca_isi (by assumption) (kit_int _ (by assumption)) ?_) | ((with_reducible show CaD _ _ (Value.builtin "isinstance") [_, SV.ty "bool"] _ _); refine ca_isi (by assumption) (kit_bool _ (by assumption)) ?_) | ((with_reducible show CaD _ _ (Value.builtin "isinstance") [_, SV.ty "str"] _ _); refine ca_isi (by assumption) (kit_str _ (by assumption)) ?_) | ((with_reducible show CaD _ _ (Value.builtin "isinstance") [_, SV.ty "tuple"] _ _); refine ca_isi (by assumption) (kit_tuple _ (by assumption)) ?_) | ((with_reducible show CaD _ _ (Value.builtin "isinstance") [_, SV.ty "list"] _ _); refine ca_isi (by assumption) (kit_list _ (by assumption)) ?_) | ((with_reducible show CaD _ _ (Value.builtin "isinstance") [_, SV.ty "dict"] _ _); refine ca_isi (by assumption) (kit_dict _ (by assumption)) ?_) | ((with_reducible show CaD _ _ (Value.builtin "max") _ _ _); refine ca_max2 rfl ?_) | ((with_reducible show CaD _ _ (Value.builtin "min") _ _ _); refine ca_min2 rfl ?_) | ((with_reducible show CaD _ _ (Value.builtin "len") _ _ _); first | refine ca_lenT ?_ | refine ca_lenS (by assumption) ?_ | refine ca_lenSc ?_ | refine ca_lenL (.inl rfl) ?_) | ((with_reducible show CaD _ _ (Value.type "list") _ _ _); refine ca_listT ?_) | ((with_reducible show CaD _ _ (Value.builtin "divmod") _ _ _); refine ca_divmod (by assumption) (by omega) ?_) | walk_at "dca")
    | ((with_reducible show DT _ _ _ _ _ _); first | ((with_reducible show DT _ _ (Expr.BoolOp _ _ _) _ _ _); refine dt_w ?_) | ((with_reducible show DT _ _ (Expr.UnaryOp UnaryOp.Not _ _) _ _ _); refine dt_not ?_) | ((with_reducible show DT _ _ (Expr.Compare _ [_] _ _) _ _ _); refine dt_cmp ?_) | ((with_reducible show DT _ _ (Expr.Compare _ [_, _] _ _) _ _ _); refine dt_chain ?_) | refine dt_val ?_)
    | ((with_reducible show DW _ _ _ _ _ _); first | ((with_reducible show DW _ _ (Expr.BoolOp BoolOp.And [_] _) _ _ _); refine dw_and1 ?_) | ((with_reducible show DW _ _ (Expr.BoolOp BoolOp.Or [_] _) _ _ _); refine dw_or1 ?_) | ((with_reducible show DW _ _ (Expr.BoolOp BoolOp.And _ _) _ _ _); refine dw_and ?_) | ((with_reducible show DW _ _ (Expr.BoolOp BoolOp.Or _ _) _ _ _); refine dw_or ?_))
    | ((with_reducible show DSs _ _ _ _ _ _); first | ((with_reducible show DSs _ _ [] _ _ _); refine dss_nil ?_) | ((with_reducible show DSs _ _ [_] _ _ _); refine dss_one ?_) | ((with_reducible show DSs _ _ (_ :: _) _ _ _); refine dss_cons ?_))
    | ((with_reducible show DS _ _ _ _ _ _); first | ((with_reducible show DS _ _ (Stmt.Return (some _) _) _ _ _); refine ds_ret ?_) | ((with_reducible show DS _ _ (Stmt.If _ _ _ _) _ _ _); refine ds_if ?_) | ((with_reducible show DS _ _ (Stmt.Expr _ _) _ _ _); refine ds_expr ?_) | ((with_reducible show DS _ _ (Stmt.Assign [Expr.Name _ _] _ _) _ _ _); walk_at "dset"))
    | ((with_reducible show DP _ _ none _ _ _); refine dp_none ?_)
    | ((with_reducible show DP _ _ (some _) _ _ _); refine dp_some ?_)
    | ((with_reducible show ∃ d, SV.dat _ = SV.dat d ∧ Fi d ∧ _); refine ⟨_, rfl, by assumption, ?_⟩)
    | ((with_reducible show ∃ i, SV.dat (Dt.int _) = SV.dat (Dt.int i) ∧ _); refine ⟨_, rfl, ?_⟩)
    | ((with_reducible show SlD _ _ (SV.dat (Dt.tup _)) _ _ _ _); refine sl_dT ?_)
    | ((with_reducible show ∃ ds, undat _ = some ds ∧ ds.length ≤ 1000 ∧ _); refine ⟨_, rfl, Nat.le_of_ble_eq_true rfl, ?_⟩)
    | ((with_reducible show ∃ q, SV.at _ = SV.at q ∧ _); refine ⟨_, rfl, ?_⟩)
    | ((with_reducible show ∃ z, SV.dat (Dt.str _) = SV.dat (Dt.str z) ∧ _); refine ⟨_, rfl, ?_⟩)
    | ((with_reducible show IxD _ _ (SV.at _) (SV.dat (Dt.int 0)) _ _); refine ix_pot0 (by assumption) (fun _ _ => ?_))
    | ((with_reducible show IxD _ _ (SV.at _) (SV.dat (Dt.int 1)) _ _); refine ix_pot1 (by assumption) (fun _ _ _ => ?_))
    | ((with_reducible show UnD _ _ (unaryOp UnaryOp.USub) _ _ _); refine un_negI ?_)
    | ((with_reducible show Po.nx _ _ _); dsimp only)
    | ((with_reducible show Po.rt _ _ _); dsimp only))
local macro_rules
  | `(tactic| walk_at "drun") => `(tactic| repeat' (walk_at "dstep"))

theorem strs_facts : ∀ zs : List Str, (∀ z ∈ zs, PyData.strOk z = true) → noDicA (zs.map Dt.str) = true ∧ PyData.canLayAll0 (toPyA (zs.map Dt.str)) = true ∧ PyData.depthAll (toPyA (zs.map Dt.str)) = 0
  | [], _ => by simp [noDicA, toPyA, PyData.canLayAll0, PyData.depthAll]
  | z :: zs, h => by
    obtain ⟨h1, h2, h3⟩ := strs_facts zs fun y hy => h y (List.mem_cons_of_mem _ hy)
    have h0 := h z List.mem_cons_self
    simp [noDicA, noDic, toPyA, toPy, PyData.canLayAll0, PyData.canLay0, PyData.depthAll, PyData.depth, h0, h1, h2, h3]
theorem eqv_nil (zs : List Str) : PyData.eqv (toPy (.lst (zs.map Dt.str))) (toPy (.lst [])) = zs.isEmpty := by
  cases zs <;> simp [toPy, toPyA, PyData.eqv, PyData.eqvAll]
theorem shaped_strs (zs : List Str) (h : ∀ z ∈ zs, PyData.strOk z = true) : SeqAt.shaped (toPy (.lst (zs.map Dt.str))) = true := by
  obtain ⟨h1, h2, h3⟩ := strs_facts zs h
  simp [SeqAt.shaped, toPy, PyData.canLay0, PyData.depth, h2, h3]
theorem noDic_strs (zs : List Str) (h : ∀ z ∈ zs, PyData.strOk z = true) : noDic (.lst (zs.map Dt.str)) = true := by
  simp [noDic, (strs_facts zs h).1]

theorem low_iff (c : Nat) : decide (c ∈ (("abcdefghijklmnopqrstuvwxyz" : Str)).cps.toList) = low c := by
  have e : ("abcdefghijklmnopqrstuvwxyz" : Str).cps.toList = (List.range 26).map (97 + ·) := by decide +kernel
  rw [e, Bool.eq_iff_iff, decide_eq_true_eq, List.mem_map]
  unfold low
  rw [Bool.and_eq_true, decide_eq_true_eq, decide_eq_true_eq]
  constructor
  · rintro ⟨k, hk, rfl⟩
    rw [List.mem_range] at hk
    omega
  · rintro ⟨h1, h2⟩
    exact ⟨c - 97, by rw [List.mem_range]; omega, by omega⟩
theorem filt_none (x : Str) : ((Dat.signs x).filter fun d => !signD d).isEmpty = x.cps.toList.all low := by
  rw [← signs_all]
  induction Dat.signs x with
  | nil => rfl
  | cons d ds ih =>
    rw [List.filter_cons, List.map_cons, List.all_cons]
    cases signD d
    · rfl
    · simpa using ih
def signZ (x : Str) : List Str := x.cps.toList.map fun c => ⟨#[c]⟩
theorem signs_Z (x : Str) : Dat.signs x = (signZ x).map Dt.str := by
  unfold Dat.signs signZ
  rw [List.map_map]
  rfl
section
variable {P : Program} {w : World} {K : PySem.W.Frag} {mg : Str → Option Value} {base : Heap}
/-! ### the law's look at a label -/
abbrev sLabel : Stmt := top 22
theorem scLabel : FnScope ["_law_thing", "_law_sign"] ["_law_thing"] (defScope sLabel) := ⟨rfl, rfl, rfl, by decide +kernel, rfl, by decide +kernel, by decide +kernel⟩
theorem ok_label {f : Addr} {fd : FuncData} (F : Fun K "_law_is_label" "_law_is_label" sLabel f fd) (T : Txt mg) : FnG P w K mg base 1 f fd ["_law_thing"] spName := by
  refine fn_pure F scLabel (fun ds ⟨d, e, _⟩ => by rw [e]; rfl) fun cdv A outer s H hr hg w' ds μ ⟨d, e, hd⟩ => ?_
  subst e
  have ho := hd.notObj
  obtain ⟨t1, t2, t3, t4, t5, t6, t7, t8, t9, t10, t11, t12, t13, t14, t15, t16, t17, t18⟩ := T
  have hN : (["_law_thing", "_law_sign"] : List Str).Nodup := by decide +kernel
  refine dss_cons ?_
  cases d with
  | str x =>
    have hx := hd.str
    have hz : x.length ≤ sizeLine := small_ok (by omega)
    walk_at "drun"
    · rename_i h1 h2 h3
      refine ⟨_, rfl, ⟨_, rfl, ?_⟩, Mus.Sub.refl _⟩
      have : ¬ x.length ≤ 8 := by have := of_decide_eq_false (Bool.not_eq_true' _ ▸ h3); omega
      simp [nameD, this]
    · rename_i h1 h2 h3
      refine de_lc 1 rfl hN (blkOk_by (N := ["_law_thing", "_law_sign"]) (sc := defScope sLabel) (by decide +kernel)) ?_
      refine di_str (de_nm rfl ⟨_, rfl, ?_⟩)
      refine lc_filter id (fun d => !signD d) (by rw [signs_len]; omega) ?_ ?_ ?_
      · intro d hd w' k
        obtain ⟨c, hc, rfl⟩ := signs_mem hd
        walk_at "drun"
        refine op_signNotIn ?_
        walk_at "drun"
        refine ⟨?_, rfl⟩
        rw [low_iff]
        simp [signD]
      · intro d hd hp w' k
        obtain ⟨c, hc, rfl⟩ := signs_mem hd
        walk_at "drun"
        exact ⟨rfl, rfl⟩
      · walk_at "drun"
        have ok : ∀ z ∈ (signZ x).filter (fun z => !signD (.str z)), PyData.strOk z = true := by
          intro z hz'
          obtain ⟨c, hc, rfl⟩ := List.mem_map.mp (List.mem_filter.mp hz').1
          have := hx.2 c hc
          simp [PyData.strOk]
          omega
        have e : List.map id (List.filter (fun d => !signD d) (Dat.signs x)) = ((signZ x).filter (fun z => !signD (.str z))).map Dt.str := by
          rw [List.map_id, signs_Z, List.filter_map]
          rfl
        rw [e]
        refine op_eqDt hr (noDic_strs _ ok) rfl (shaped_strs _ ok) (shaped_strs [] nofun) ?_
        rw [eqv_nil]
        have e2 : ((signZ x).filter (fun z => !signD (.str z))).isEmpty = x.cps.toList.all low := by
          rw [← filt_none, signs_Z, List.filter_map, List.isEmpty_map]
          rfl
        rw [e2]
        refine ⟨_, rfl, ⟨_, rfl, ?_⟩, Mus.Sub.refl _⟩
        have g1 : 1 ≤ x.length := by have := of_decide_eq_true h2; omega
        have g2 : x.length ≤ 8 := by have := of_decide_eq_true (Bool.not_eq_false' _ ▸ h3); omega
        simp [nameD, g1, g2]
    · rename_i h1 h2 h3
      refine ⟨_, rfl, ⟨_, rfl, ?_⟩, Mus.Sub.refl _⟩
      have : ¬ 1 ≤ x.length := by have := of_decide_eq_false h2; omega
      simp [nameD, this]
  | obj _ _ _ => exact Bool.noConfusion ho
  | _ =>
    walk_at "drun"
    all_goals exact ⟨_, rfl, ⟨_, rfl, rfl⟩, Mus.Sub.refl _⟩
end
/-! ### the pot -/
def spPot (K : PySem.W.Frag) : Sp := GSp (fun rs _ => ∃ a ns k, rs = [.sc K a ns, .dat (.int k)] ∧ 0 ≤ k ∧ k ≤ 100 ∧ ns.length ≤ 1000) fun rs μ r μ' => ∃ p, r = .at p ∧ μ p = none ∧ μ' = μ.put p .pot
def okM (m : Int) : Prop := 0 < m ∧ m < 1000000
def spTake : Sp := QSp (fun ds => ∃ m, ds = [.int m] ∧ okM m) fun ds r => ∃ m v, ds = [.int m] ∧ r = .int v ∧ 0 ≤ v ∧ v < m
section
variable {X : Cx} {w : Wd} {ρ : List SV} {μ : Mus} {R : SV → Mus → Prop} {e e2 e3 : Expr} {es : List Expr} {x : Str} {p pos : Pos} {j k : Nat}
theorem de_take {x : Str} (O : Own X.prog X.w X.K X.mg X.base x k spTake) (hr : Room j X.A) (hkj : k ≤ j) (hgd : X.A.guards = some [])
    (ha : DE X w e ρ μ fun r μ1 => ∃ q, r = .at q ∧ DE X w e2 ρ μ1 fun r2 μ2 => ∃ m, r2 = .dat (.int m) ∧ μ2 q = some .pot ∧ okM m ∧ ∀ v, 0 ≤ v → v < m → R (.dat (.int v)) μ2) (hg : Gl X x := by rfl) (hdb : (x == ("__debug__" : Str)) = false := by decide)
    (he : starEach [e, e2] X.env = (false, eval e X.env) :: starEach [e2] X.env := by rfl) (he2 : starEach [e2] X.env = (false, eval e2 X.env) :: starEach [] X.env := by rfl) (hpl : (backTo pos (starEach [e2] X.env)).any (·.1) = false := by rfl) : DE X w (.Call (.Name x p) [e, e2] [] pos) ρ μ R :=
  de_pot O hr hkj hgd (da_cons (hs := he) (ha.imp fun r μ1 ⟨q, e1, h1⟩ => by
    subst e1
    exact da_cons (hs := he2) (h1.imp fun r2 μ2 ⟨m, e3, h2, h3, h4⟩ => by
      subst e3
      refine da_nil ⟨q, [.dat (.int m)], [.int m], rfl, rfl, h2, ⟨m, rfl, h3⟩, fun d ⟨m', v, e4, e5, h5, h6⟩ => ?_⟩
      cases e4
      subst e5
      exact h4 v h5 h6))) hg hdb he hpl
end
set_option hygiene false in
local macro_rules
  | `(tactic| walk_at "down") => `(tactic| first | ((with_reducible show DE _ _ (Expr.Call (Expr.Name "_law_take" _) _ _ _) _ _ _); refine de_take oTake hr (by decide) hg ?_))
section
variable {P : Program} {w : World} {K : PySem.W.Frag} {mg : Str → Option Value} {base : Heap}
abbrev sPot : Stmt := top 19
theorem scPot : FnScope ["_law_script", "_law_k", "_law_cell"] ["_law_script", "_law_k"] (defScope sPot) := ⟨rfl, rfl, rfl, by decide +kernel, rfl, by decide +kernel, by decide +kernel⟩
set_option hygiene false in
local macro_rules
  | `(tactic| walk_at "dset") => `(tactic| refine ds_set 2 hN ?_)
local macro_rules
  | `(tactic| walk_at "dlst") => `(tactic| refine de_lstPot ?_)
theorem ok_pot {f : Addr} {fd : FuncData} (F : Fun K "_law_pot" "_law_pot" sPot f fd) (T : Txt mg) : FnG P w K mg base 1 f fd ["_law_script", "_law_k"] (spPot K) := by
  refine fn_ok F scPot (fun rs μ ⟨a, ns, k, e, _⟩ => by rw [e]; rfl) fun cdv A outer s H hr hg w' rs μ ⟨a, ns, k, e, hk0, hk1, hns⟩ => ?_
  subst e
  obtain ⟨t1, t2, t3, t4, t5, t6, t7, t8, t9, t10, t11, t12, t13, t14, t15, t16, t17, t18⟩ := T
  have hN : (["_law_script", "_law_k", "_law_cell"] : List Str).Nodup := by decide +kernel
  have fin : ∀ c : Int, DSs (bx P w K mg base ["_law_script", "_law_k", "_law_cell"] "_law_pot" sPot f cdv A outer s H) w' ((defBody sPot).drop 1) [.sc K a ns, .dat (.int k), .dat (.int c)] μ
      { nx := fun x μ' => ∃ ν, ν.Sub μ' ∧ ∃ p, SV.dat Dt.non = SV.at p ∧ μ p = none ∧ ν = μ.put p .pot, rt := fun r μ' => ∃ ν, ν.Sub μ' ∧ ∃ p, r = SV.at p ∧ μ p = none ∧ ν = μ.put p .pot } := by
    intro c
    refine dss_one ?_
    walk_at "drun"
    refine ⟨_, _, rfl, ?_, ?_, ?_, fun p h1 _ => ⟨_, Mus.Sub.refl _, p, rfl, h1, rfl⟩⟩
    · omega
    · omega
    · omega
  refine dss_cons ?_
  walk_at "drun"
  · rename_i h
    have hk2 := of_decide_eq_true h
    refine ix_sc (n := ns[k.toNat]'(by omega)) ?_ ?_
    · unfold atI ixN
      rw [if_pos hk0, if_pos (by omega)]
      exact List.getElem?_eq_getElem _
    · exact fin _
  · refine ⟨_, _, rfl, ?_, ?_, ?_, fun p h1 _ => ⟨_, Mus.Sub.refl _, p, rfl, h1, rfl⟩⟩
    · omega
    · omega
    · omega
abbrev sTake : Stmt := top 20
theorem scTake : FnScope ["_law_pot_here", "_law_much", "_law_digit"] ["_law_pot_here", "_law_much"] (defScope sTake) := ⟨rfl, rfl, rfl, by decide +kernel, rfl, by decide +kernel, by decide +kernel⟩
theorem ok_take {f : Addr} {fd : FuncData} (F : Fun K "_law_take" "_law_take" sTake f fd) (T : Txt mg) : FnG P w K mg base 1 f fd ["_law_pot_here", "_law_much"] spTake := by
  refine fn_pot F scTake (fun ds ⟨m, e, _⟩ => by rw [e]; rfl) fun cdv A outer s H hr hg w' p ds μ hp ⟨m, e, hm0, hm1⟩ => ?_
  subst e
  obtain ⟨t1, t2, t3, t4, t5, t6, t7, t8, t9, t10, t11, t12, t13, t14, t15, t16, t17, t18⟩ := T
  have hN : (["_law_pot_here", "_law_much", "_law_digit"] : List Str).Nodup := by decide +kernel
  refine dss_cons ?_
  walk_at "drun"
  · rename_i a ha h
    refine ds_asg ?_
    walk_at "drun"
    rename_i a' ha'
    refine dg_tup rfl (dgs_cons (dg_pot ?_) rfl) rfl
    walk_at "drun"
    refine ⟨hp, .inl ⟨rfl, ?_⟩, ?_⟩
    · exact Int.ediv_nonneg ha' (Int.le_of_lt hm0)
    refine dgs_cons (dg_name 2 hN (dgs_nil ?_)) rfl
    walk_at "drun"
    exact ⟨_, rfl, ⟨m, _, rfl, rfl, Int.emod_nonneg _ (by omega), Int.emod_lt_of_pos _ hm0⟩, Mus.Sub.refl _⟩
  · rename_i a ha h
    refine ds_asg ?_
    walk_at "drun"
    refine dg_pot ?_
    walk_at "drun"
    refine ⟨hp, .inr ⟨rfl, ?_, ?_⟩, ?_⟩
    · omega
    · omega
    walk_at "drun"
    exact ⟨_, rfl, ⟨m, _, rfl, rfl, Int.emod_nonneg _ (by omega), Int.emod_lt_of_pos _ hm0⟩, Mus.Sub.refl _⟩
end
theorem put_twice {μ : Mus} {q : Addr} {a b : MO} : (μ.put q a).put q b = μ.put q b := by
  funext c
  unfold Mus.put
  by_cases h : c = q
  · rw [if_pos h, if_pos h]
  · rw [if_neg h, if_neg h, if_neg h]
theorem sub_put {μ : Mus} {q : Addr} {a : MO} (h : μ q = none) : μ.Sub (μ.put q a) := fun c o hc => by
  have : c ≠ q := fun e => by rw [e, h] at hc; cases hc
  rw [put_ne this]; exact hc
theorem pot_ne {μ : Mus} {p q : Addr} {a : MO} (hp : μ p = some .pot) (h : μ q = none) : (μ.put q a) p = some .pot := sub_put h p _ hp
theorem atI_some (ds : List Dt) (v : Int) (h0 : 0 ≤ v) (h1 : v < ds.length) : ∃ d, d ∈ ds ∧ atI ds v = some d := by
  have hl : v.toNat < ds.length := by omega
  exact ⟨ds[v.toNat], List.getElem_mem hl, atI_last ds v _ h0 (List.getElem?_eq_getElem hl)⟩
def Nm (l : List Nat) : Prop := 1 ≤ l.length ∧ l.length ≤ 8 ∧ ∀ c, c ∈ l → 97 ≤ c ∧ c ≤ 122
def spNew : Sp := GSp (fun rs μ => ∃ p q, rs = [.at p, .at q] ∧ μ p = some .pot ∧ μ q = some (.lst []) ∧ p ≠ q) fun rs μ r μ' => ∀ p q, rs = [.at p, .at q] → ∃ l, Nm l ∧ r = .dat (.str (SX.S l)) ∧ μ' = μ.put q (.lst [.str (SX.S l)])
theorem cut_len (x : Str) (lo hi : Option Int) : (cutS x lo hi).length ≤ x.length := by
  show (List.toArray _).size ≤ x.cps.size
  rw [List.size_toArray, List.length_take, List.length_drop, Array.length_toList]
  omega
theorem letters_at (v : Int) (h0 : 0 ≤ v) (h1 : v < 26) : ∃ c, atI (("abcdefghijklmnopqrstuvwxyz" : Str)).cps.toList v = some c ∧ 97 ≤ c ∧ c ≤ 122 := by
  have e : ("abcdefghijklmnopqrstuvwxyz" : Str).cps.toList = (List.range 26).map (97 + ·) := by decide +kernel
  rw [e]
  refine ⟨97 + v.toNat, ?_, by omega, by omega⟩
  unfold atI ixN
  rw [if_pos h0, if_pos (by simp; omega)]
  show ((List.range 26).map (97 + ·))[v.toNat]? = _
  rw [List.getElem?_map, List.getElem?_range (by omega)]
  rfl
theorem signs_of : ∀ acc : List Dt, (∀ d, d ∈ acc → ∃ c, 97 ≤ c ∧ c ≤ 122 ∧ d = .str (SX.S [c])) → ∃ l : List Nat, acc = (l.map fun c => SX.S [c]).map Dt.str ∧ ∀ c, c ∈ l → 97 ≤ c ∧ c ≤ 122
  | [], _ => ⟨[], rfl, nofun⟩
  | d :: acc, h => by
    obtain ⟨l, e, hl⟩ := signs_of acc fun d hd => h d (List.mem_cons_of_mem _ hd)
    obtain ⟨c, h1, h2, h3⟩ := h d List.mem_cons_self
    refine ⟨c :: l, by rw [List.map_cons, List.map_cons, ← e, h3], fun y hy => ?_⟩
    rcases List.mem_cons.mp hy with rfl | g
    · exact ⟨h1, h2⟩
    · exact hl y g
theorem joinL_ones : ∀ l : List Nat, TL.joinL [] (l.map fun c => [c]) = l
  | [] => rfl
  | [c] => rfl
  | c :: d :: l => by
    show [c] ++ ([] ++ TL.joinL [] ((d :: l).map fun c => [c])) = _
    rw [joinL_ones (d :: l)]
    rfl
theorem join_ones (l : List Nat) : Txt.join "" (l.map fun c => SX.S [c]) = SX.S l := by
  have e : (l.map fun c => SX.S [c]) = (l.map fun c => [c]).map SX.S := by rw [List.map_map]; rfl
  rw [e]
  exact (SX.join_S [] _).trans (by rw [joinL_ones])
theorem strs_of : ∀ acc : List Dt, (∀ d, d ∈ acc → ∃ z, d = .str z) → ∃ zs : List Str, acc = zs.map Dt.str
  | [], _ => ⟨[], rfl⟩
  | d :: acc, h => by
    obtain ⟨l, e⟩ := strs_of acc fun d hd => h d (List.mem_cons_of_mem _ hd)
    obtain ⟨c, h1⟩ := h d List.mem_cons_self
    exact ⟨c :: l, by rw [List.map_cons, ← e, h1]⟩
section
variable {P : Program} {w : World} {K : PySem.W.Frag} {mg : Str → Option Value} {base : Heap}
abbrev sNew : Stmt := top 21
abbrev nNew : List Str := ["_law_pot_here", "_law_used", "_law_letters", "_law_size", "_law_name", "_law_some", "_law_k", "_law_one"]
theorem scNew : FnScope nNew ["_law_pot_here", "_law_used"] (defScope sNew) := ⟨rfl, rfl, rfl, by decide +kernel, rfl, by decide +kernel, by decide +kernel⟩
theorem ok_new {f : Addr} {fd : FuncData} (F : Fun K "_law_label" "_law_label" sNew f fd) (T : Txt mg) (oTake : Own P w K mg base "_law_take" 1 spTake) : FnG P w K mg base 2 f fd ["_law_pot_here", "_law_used"] spNew := by
  refine fn_ok F scNew (fun rs μ ⟨p, q, e, _⟩ => by rw [e]; rfl) fun cdv A outer s H hr hg w' rs μ ⟨p, q, e, hp, hq, hpq⟩ => ?_
  subst e
  obtain ⟨t1, t2, t3, t4, t5, t6, t7, t8, t9, t10, t11, t12, t13, t14, t15, t16, t17, t18⟩ := T
  have hN : nNew.Nodup := by decide +kernel
  refine dss_cons (ds_set 2 hN ?_)
  walk_at "drun"
  refine ds_set 3 hN ?_
  walk_at "drun"
  refine ⟨hp, ⟨by decide, by decide⟩, fun v hv0 hv1 => ?_⟩
  walk_at "drun"
  refine ⟨hp, ⟨by decide, by decide⟩, fun u hu0 hu1 => ?_⟩
  obtain ⟨d, hd, hat⟩ := atI_some [.int 1, .int 1, .int 2, .int 8, .int (1 + v)] u hu0 (by simpa using hu1)
  have hsz : ∃ n : Nat, d = .int n ∧ 1 ≤ n ∧ n ≤ 8 := by
    simp only [List.mem_cons, List.not_mem_nil, or_false] at hd
    rcases hd with rfl | rfl | rfl | rfl | rfl
    · exact ⟨1, rfl, by omega, by omega⟩
    · exact ⟨1, rfl, by omega, by omega⟩
    · exact ⟨2, rfl, by omega, by omega⟩
    · exact ⟨8, rfl, by omega, by omega⟩
    · exact ⟨(1 + v).toNat, by rw [Int.toNat_of_nonneg (by omega)], by omega, by omega⟩
  obtain ⟨n, rfl, hn1, hn8⟩ := hsz
  refine ix_dL (.inl rfl) hat ?_
  walk_at "drun"
  refine ds_set 4 hN ?_
  refine de_join ?_
  walk_at "drun"
  refine de_lc 6 rfl hN (blkOk_by (N := nNew) (sc := defScope sNew) (by decide +kernel)) ?_
  refine di_range1 ?_ t12
  walk_at "drun"
  refine ⟨_, rfl, by omega, by omega, ?_⟩
  refine lc_some (fun d => ∃ c, 97 ≤ c ∧ c ≤ 122 ∧ d = .str (SX.S [c])) (by simp [upto]; omega) ?_ ?_
  · intro d hd w2 k
    walk_at "drun"
    refine ⟨hp, ⟨by decide, by decide⟩, fun y hy0 hy1 => ?_⟩
    obtain ⟨c, hc, hc1, hc2⟩ := letters_at y hy0 hy1
    refine ix_dS (small_ok (by decide)) hc ?_
    exact ⟨_, rfl, ⟨c, hc1, hc2, rfl⟩, rfl⟩
  intro acc hacc hT
  obtain ⟨l, rfl, hl⟩ := signs_of acc hT
  have hln : l.length = n := by simpa [upto] using hacc
  refine ⟨l.map fun c => SX.S [c], .inl rfl, ?_, ?_⟩
  · have : ∀ l : List Nat, ((l.map fun c => SX.S [c]).map (·.length)).sum = l.length := by
      intro l
      induction l with
      | nil => rfl
      | cons c l ih => rw [List.map_cons, List.map_cons, List.sum_cons, ih, List.length_cons]; show 1 + _ = _; omega
    rw [this, List.length_map]
    have e0 : ("" : Str).length = 0 := rfl
    rw [e0]
    omega
  rw [join_ones]
  walk_at "drun"
  show DS (bx P w K mg base nNew "_law_label" sNew f cdv A outer s H) w' _ [.at p, .at q, .dat (.str "abcdefghijklmnopqrstuvwxyz"), .dat (.int n), .dat (.str (SX.S l)), .no, .no, .no] μ _
  have hlen : (SX.S l).length ≤ 8 := by rw [SX.S_len]; omega
  refine ds_set 5 hN ?_
  walk_at "drun"
  refine de_lc 7 rfl hN (blkOk_by (N := nNew) (sc := defScope sNew) (by decide +kernel)) ?_
  refine di_str ?_
  walk_at "drun"
  refine lc_some (fun d => ∃ z, d = .str z) (by decide) ?_ ?_
  · intro d hd w2 k
    obtain ⟨c, hc, rfl⟩ := signs_mem hd
    walk_at "drun"
    refine sl_dS (small_ok (by omega)) ?_
    have hcl := cut_len (SX.S l) none (some 7)
    refine op_addS (small_ok (by have : (⟨#[c]⟩ : Str).length = 1 := rfl; omega)) ?_
    exact ⟨_, rfl, ⟨_, rfl⟩, rfl⟩
  intro acc1 hacc1 hT1
  have hs26 : (Dat.signs "abcdefghijklmnopqrstuvwxyz").length = 26 := by decide
  rw [hs26] at hacc1
  refine op_addL (.inl rfl) (.inl rfl) (small_ok (by simp; omega)) ?_
  refine de_lc 7 rfl hN (blkOk_by (N := nNew) (sc := defScope sNew) (by decide +kernel)) ?_
  refine di_str ?_
  walk_at "drun"
  refine lc_some (fun d => ∃ z, d = .str z) (by decide) ?_ ?_
  · intro d hd w2 k
    obtain ⟨c, hc, rfl⟩ := signs_mem hd
    have h1 : (⟨#[c]⟩ : Str).length = 1 := rfl
    walk_at "drun"
    refine op_addS (small_ok (by omega)) ?_
    walk_at "drun"
    refine sl_dS (small_ok (by omega)) ?_
    have hcl := cut_len (SX.S l) none (some 6)
    have h2 : ((⟨#[c]⟩ : Str) ++ (⟨#[c]⟩ : Str)).length = 2 := rfl
    refine op_addS (small_ok (by omega)) ?_
    exact ⟨_, rfl, ⟨_, rfl⟩, rfl⟩
  intro acc2 hacc2 hT2
  rw [hs26] at hacc2
  refine op_addL (.inl rfl) (.inl rfl) (small_ok (by simp; omega)) ?_
  obtain ⟨z1, e1⟩ := strs_of acc1 hT1
  obtain ⟨z2, e2⟩ := strs_of acc2 hT2
  have hall : ∀ d, d ∈ ([.str (SX.S l)] ++ acc1 ++ acc2 : List Dt) → ∃ z, d = .str z := by
    intro d hd
    simp only [List.mem_append, List.mem_singleton] at hd
    rcases hd with (rfl | h) | h
    · exact ⟨_, rfl⟩
    · exact hT1 d h
    · exact hT2 d h
  walk_at "drun"
  show DS (bx P w K mg base nNew "_law_label" sNew f cdv A outer s H) w' _ [.at p, .at q, .dat (.str "abcdefghijklmnopqrstuvwxyz"), .dat (.int n), .dat (.str (SX.S l)), .dat (.lst ([.str (SX.S l)] ++ acc1 ++ acc2)), .no, .no] μ _
  refine ds_set 4 hN ?_
  walk_at "drun"
  refine de_lc 7 rfl hN (blkOk_by (N := nNew) (sc := defScope sNew) (by decide +kernel)) ?_
  refine di_lst ?_
  walk_at "drun"
  refine ⟨_, rfl, lc_filter id (fun _ => true) (by simp; omega) ?_ ?_ ?_⟩
  · intro d hd w2 k
    obtain ⟨z, rfl⟩ := hall d hd
    walk_at "drun"
    refine op_notInL (zs := []) (.inr ⟨q, rfl, hq⟩) ?_
    walk_at "drun"
    exact ⟨rfl, rfl⟩
  · intro d hd _ w2 k
    obtain ⟨z, rfl⟩ := hall d hd
    walk_at "drun"
    exact ⟨rfl, rfl⟩
  walk_at "drun"
  refine ix_dL (.inl rfl) (d := .str (SX.S l)) (by
    have e : ((([.str (SX.S l)] ++ acc1 ++ acc2 : List Dt).filter fun _ => true).map id) = .str (SX.S l) :: (acc1 ++ acc2) := by rw [List.filter_eq_self.mpr (fun _ _ => rfl), List.map_id]; rfl
    rw [e]
    exact atI_head _ _) ?_
  walk_at "drun"
  refine de_bm (T := "list") (id := "list.append") (de_nm rfl ⟨ty_lst (.inr ⟨q, rfl, hq⟩), ?_⟩) PySem.F.plainAttrs_list PySem.F.slot_list_append PySem.F.type_list_append
  walk_at "drun"
  refine mt_appendM hq (by decide) ?_
  walk_at "drun"
  refine ⟨_, Mus.Sub.refl _, fun p' q' e => ?_⟩
  cases e
  exact ⟨l, ⟨by omega, by omega, hl⟩, rfl, rfl⟩
end
end K18

set_option Elab.async false
set_option linter.all false
set_option maxRecDepth 100000
set_option maxHeartbeats 4000000
namespace Dat
open PySem PySem.Spec PyProof.Rows L2
theorem sl_dL {X : Cx} {w : Wd} {μ : Mus} {R : SV → Mus → Prop} {r : SV} {xs : List Dt} {lo hi : Option Int} (h1 : LsQ r μ xs) (h : R (.dat (.lst (Dat.cutD xs lo hi))) μ) : SlD X w r lo hi μ R := fun B H v I q Q k => by
  obtain ⟨a, as, rfl, hH, hx⟩ := ls_get I q h1
  refine sSl_of sl_list ⟨a, as, rfl, .inl (.inl hH), fun p hp => ?_⟩
  have f := (I.free hp).1
  exact k _ (.dat (.lst (Dat.cutD xs lo hi))) _ _ μ (I.new hp _) (Ex.new f) (Dq.lst upd_same ((hx.cut lo hi).mono (Ex.new f))) h
end Dat
namespace K18
open PySem PySem.Spec PyProof.Rows L2 Dat
/-! ### texts split, numbers told -/
theorem spl_facts : ∀ (l acc : List Nat), TL.spl [46] 0 acc l ≠ [] ∧ (TL.spl [46] 0 acc l).length ≤ l.length + 1 ∧ ∀ p, p ∈ TL.spl [46] 0 acc l → p.length ≤ acc.length + l.length ∧ ∀ c, c ∈ p → c ∈ acc ∨ c ∈ l
  | [], acc => by
    rw [TL.spl_nil]
    refine ⟨by simp, by simp, fun p hp => ?_⟩
    rw [List.mem_singleton.mp hp]
    exact ⟨by simp, fun c hc => .inl hc⟩
  | c :: r, acc => by
    by_cases e : c = 46
    · subst e
      rw [TL.spl_hit (by simp [TL.pre])]
      obtain ⟨h1, h2, h3⟩ := spl_facts r []
      refine ⟨by simp, by simpa using h2, fun p hp => ?_⟩
      rcases List.mem_cons.mp hp with rfl | h
      · exact ⟨by simp, fun c hc => .inl hc⟩
      · obtain ⟨h4, h5⟩ := h3 p h
        refine ⟨by simp at h4 ⊢; omega, fun c hc => .inr ?_⟩
        rcases h5 c hc with z | z
        · cases z
        · exact List.mem_cons_of_mem _ z
    · rw [TL.spl_miss (TL.pre_of_head _ _ e)]
      obtain ⟨h1, h2, h3⟩ := spl_facts r (acc ++ [c])
      refine ⟨h1, by simp; omega, fun p hp => ?_⟩
      obtain ⟨h4, h5⟩ := h3 p hp
      refine ⟨by simp at h4 ⊢; omega, fun d hd => ?_⟩
      rcases h5 d hd with z | z
      · rcases List.mem_append.mp z with y | y
        · exact .inl y
        · rw [List.mem_singleton.mp y]
          exact .inr List.mem_cons_self
      · exact .inr (List.mem_cons_of_mem _ z)
def dig (c : Nat) : Bool := decide (48 ≤ c) && decide (c ≤ 57)
def numL (l : List Nat) : Dt := if (l ≠ [] ∧ l.all dig = true) ∧ l.length ≤ 30 then (if l.head? = some 48 ∧ l ≠ [48] then .non else .int (NumText.digitsVal l)) else .non
theorem isd (c : Nat) (h : c < 128) : Unicode.isDigit c = dig c := by
  have := (by decide +kernel : ∀ c, c < 128 → Unicode.isDigit c = dig c)
  exact this c h
theorem isdigit_S (l : List Nat) (h : ∀ c, c ∈ l → c < 128) : Txt.isdigit (SX.S l) = (decide (l ≠ []) && l.all dig) := by
  have e1 : Txt.isdigit (SX.S l) = (decide ((SX.S l).length > 0) && (SX.S l).cps.all Unicode.isDigit) := rfl
  rw [e1, SX.S_len, ← Array.all_toList]
  have e2 : (SX.S l).cps.toList = l := rfl
  rw [e2]
  congr 1
  · cases l <;> simp
  · rw [Bool.eq_iff_iff, List.all_eq_true, List.all_eq_true]
    exact ⟨fun g c hc => by rw [← isd c (h c hc)]; exact g c hc, fun g c hc => by rw [isd c (h c hc)]; exact g c hc⟩
theorem isascii_S (l : List Nat) (h : ∀ c, c ∈ l → c < 128) : Txt.isascii (SX.S l) = true := by
  have e1 : Txt.isascii (SX.S l) = (SX.S l).cps.all (· < 128) := rfl
  rw [e1, ← Array.all_toList]
  exact List.all_eq_true.mpr fun c hc => decide_eq_true (h c hc)
def figL : List (List Nat) := (List.range 12).map TL.numL
theorem figs_eq : ∀ k : Nat, k < 12 → Str.ofString (toString (k : Int)) = SX.S (TL.numL k) := fun k _ => SX.num_S k
theorem numL_back {l : List Nat} (h : l ≠ []) (hd : l.all dig = true) (hz : ¬ (l.head? = some 48 ∧ l ≠ [48])) : TL.numL (NumText.digitsVal l) = l := by
  have ad : NumText.AllDigits l := fun c hc => by
    have := List.all_eq_true.mp hd c hc
    unfold dig at this
    rw [Bool.and_eq_true, decide_eq_true_eq, decide_eq_true_eq] at this
    exact this
  cases l with
  | nil => exact absurd rfl h
  | cons c r =>
    have e := NumText.toDigits_digitsVal r.length (c :: r) rfl ad (by
      by_cases e : c = 48
      · subst e
        left
        cases r with
        | nil => rfl
        | cons d r => exact absurd ⟨rfl, by simp⟩ hz
      · right
        have := ad c List.mem_cons_self
        exact ⟨c, r, rfl, by omega⟩)
    unfold TL.numL
    rw [e, List.map_map]
    have : ∀ l : List Nat, (∀ c, c ∈ l → c ≤ 57) → l.map (Char.toNat ∘ Char.ofNat) = l := by
      intro l
      induction l with
      | nil => intro _; rfl
      | cons d l ih =>
        intro hl
        rw [List.map_cons, ih fun c hc => hl c (List.mem_cons_of_mem _ hc)]
        have h57 := hl d List.mem_cons_self
        have := (by decide +kernel : ∀ c, c < 58 → (Char.ofNat c).toNat = c)
        show (Char.ofNat d).toNat :: l = _
        rw [this d (by omega)]
    exact this _ fun c hc => (ad c hc).2
theorem numL_int {l : List Nat} {n : Int} (h : numL l = .int n) : l ≠ [] ∧ l.all dig = true ∧ l.length ≤ 30 ∧ ¬ (l.head? = some 48 ∧ l ≠ [48]) ∧ n = NumText.digitsVal l := by
  unfold numL at h
  split at h
  · rename_i h1
    split at h
    · cases h
    · rename_i h2
      cases h
      exact ⟨h1.1.1, h1.1.2, h1.2, h2, rfl⟩
  · cases h
theorem fig_iff (l : List Nat) : decide (l ∈ figL) = inD 0 11 (numL l) := by
  rw [Bool.eq_iff_iff, decide_eq_true_eq]
  constructor
  · have : ∀ l, l ∈ figL → inD 0 11 (numL l) = true := by decide +kernel
    exact this l
  · intro h
    cases e : numL l with
    | int n =>
      obtain ⟨h1, h2, h3, h4, h5⟩ := numL_int e
      rw [e] at h
      simp [inD] at h
      rw [← numL_back h1 h2 h4]
      exact List.mem_map.mpr ⟨_, List.mem_range.mpr (by omega), rfl⟩
    | _ => rw [e] at h; simp [inD] at h
theorem numL_text {l : List Nat} {n : Int} (h : numL l = .int n) : PySem.intText? (SX.S l) = some n := by
  obtain ⟨h1, h2, h3, h4, h5⟩ := numL_int h
  rw [h5]
  exact SX.int_S h2 h1 (by omega)
theorem val_lt : ∀ (l : List Nat) (a : Nat), l.all dig = true → l.foldl (fun acc c => acc * 10 + (c - 48)) a < (a + 1) * 10 ^ l.length
  | [], a, _ => by simp
  | c :: l, a, h => by
    rw [List.all_cons, Bool.and_eq_true] at h
    have hc : 48 ≤ c ∧ c ≤ 57 := by
      have := h.1
      unfold dig at this
      rw [Bool.and_eq_true, decide_eq_true_eq, decide_eq_true_eq] at this
      exact this
    have ih := val_lt l (a * 10 + (c - 48)) h.2
    rw [List.foldl_cons, List.length_cons]
    refine Nat.lt_of_lt_of_le ih ?_
    have : (a * 10 + (c - 48) + 1) ≤ (a + 1) * 10 := by omega
    calc (a * 10 + (c - 48) + 1) * 10 ^ l.length ≤ ((a + 1) * 10) * 10 ^ l.length := Nat.mul_le_mul_right _ this
      _ = (a + 1) * 10 ^ (l.length + 1) := by rw [Nat.mul_assoc, Nat.pow_succ, Nat.mul_comm 10]
theorem numL_fine (l : List Nat) (k : Nat) : fine 1000 1000 k (numL l) := by
  cases e : numL l with
  | int n =>
    obtain ⟨h1, h2, h3, h4, h5⟩ := numL_int e
    refine fine_int k ?_
    have h6 := val_lt l 0 h2
    have h7 : (10 : Nat) ^ l.length ≤ 10 ^ 30 := Nat.pow_le_pow_right (by decide) h3
    have h8 : NumText.digitsVal l < 10 ^ l.length := by
      have : NumText.digitsVal l < (0 + 1) * 10 ^ l.length := h6
      omega
    rw [h5]
    show ((NumText.digitsVal l : Nat) : Int).natAbs < 10 ^ 30
    rw [Int.natAbs_natCast]
    omega
  | non => exact fine_non k
  | bl _ => unfold numL at e; split at e <;> (try split at e) <;> cases e
  | str _ => unfold numL at e; split at e <;> (try split at e) <;> cases e
  | lst _ => unfold numL at e; split at e <;> (try split at e) <;> cases e
  | tup _ => unfold numL at e; split at e <;> (try split at e) <;> cases e
  | dic _ _ => unfold numL at e; split at e <;> (try split at e) <;> cases e
  | obj _ _ _ => unfold numL at e; split at e <;> (try split at e) <;> cases e
/-! ### what is promised -/
def As (n : Nat) (l : List Nat) : Prop := l.length ≤ n ∧ ∀ c, c ∈ l → c < 128
def splD (l : List Nat) : List (List Nat) := TL.spl [46] 0 [] l
def whoT : List (List Nat) → Option Dt
  | p :: ps => if whoD (.tup (.str (SX.S p) :: ps.map numL)) = true then some (.tup (.str (SX.S p) :: ps.map numL)) else none
  | [] => none
def whoP : Dt → Option Dt
  | .str x => whoT (splD x.cps.toList)
  | _ => none
def Ww (d : Dt) : Prop := (∃ l, d = .str (SX.S l) ∧ As 640 l) ∨ (isStr d = false ∧ isObj' d = false)
theorem split_eq (l : List Nat) : (Txt.split (SX.S l) ".").map Dt.str = (splD l).map fun p => Dt.str (SX.S p) := by
  have e : ("." : Str) = SX.S [46] := rfl
  rw [e, SX.split_S (by simp) (by decide), List.map_map]
  rfl
theorem splD_as {n : Nat} {l : List Nat} (h : As n l) : ∃ p ps, splD l = p :: ps ∧ As n p ∧ ps.length ≤ n ∧ ∀ q, q ∈ ps → As n q := by
  obtain ⟨h1, h2, h3⟩ := spl_facts l []
  have e : splD l = TL.spl [46] 0 [] l := rfl
  have g : ∀ q, q ∈ TL.spl [46] 0 [] l → As n q := fun q hq => by
    obtain ⟨h4, h5⟩ := h3 q hq
    refine ⟨by have := h.1; simp at h4; omega, fun c hc => ?_⟩
    rcases h5 c hc with z | z
    · cases z
    · exact h.2 c z
  rw [e]
  cases e2 : TL.spl [46] 0 [] l with
  | nil => exact absurd e2 h1
  | cons p ps =>
    rw [e2] at h2 g
    have := h.1
    exact ⟨p, ps, rfl, g p List.mem_cons_self, by simp at h2; omega, fun q hq => g q (List.mem_cons_of_mem _ hq)⟩
def spNum : Sp := PSp (fun ds => ∃ l, ds = [.str (SX.S l)] ∧ As 1000 l) (fun ds r => ∃ l, ds = [.str (SX.S l)] ∧ r = numL l)
def spWhoOf (C : Addr) : Sp := XSp C (fun rs _ => ∃ d, rs = [.dat d] ∧ Ww d) (fun rs μ r μ' => ∃ d w, rs = [.dat d] ∧ whoP d = some w ∧ r = .dat w ∧ μ' = μ) fun rs _ => ∃ d, rs = [.dat d] ∧ whoP d = none
structure Err (K : PySem.W.Frag) (mg : Str → Option Value) (F W C : Addr) : Prop where
  gF : mg "FacerError" = some (.ref F)
  gW : mg "NoWeb" = some (.ref W)
  gC : mg "NoText" = some (.ref C)
  x : PySem.W.excIn K C [.type "ValueError", .type "Exception", .type "BaseException", .type "object"] "ValueError.__new__" = true
  k : PySem.W.keepIn K (.ref C) = true
  b : PySem.W.subIn K (.ref C) (.type "BaseException") = some true
  t : PySem.W.typeIn K (.ref C) = some (.type "type")
  e : PySem.W.exmOne K (.ref C) (.ref F) = some true
  c : ExcC K C
  iC : PySem.W.kitOne K (.ref C) (.ref C) = some true
  iV : PySem.W.kitOne K (.ref C) (.type "ValueError") = some true
  iW : PySem.W.kitOne K (.ref C) (.ref W) = some false
end K18

set_option Elab.async false
set_option linter.all false
set_option maxRecDepth 100000
set_option maxHeartbeats 4000000
namespace K18
open PySem PySem.Spec PyProof.Rows L2 Dat
local macro_rules
  | `(tactic| walk_at "down") => `(tactic| fail "none")
local macro_rules
  | `(tactic| walk_at "dset") => `(tactic| fail "none")
local macro_rules
  | `(tactic| walk_at "dhook") => `(tactic| fail "none")
local macro_rules
  | `(tactic| walk_at "dca") => `(tactic| fail "none")
local macro_rules
  | `(tactic| walk_at "dlst") => `(tactic| refine de_lst ?_)
local macro_rules
  | `(tactic| walk_at "dstep") => `(tactic| first
    | ((with_reducible show DE _ _ _ _ _ _); first | ((with_reducible show DE _ _ (Expr.Name _ _) _ _ _); first | ((with_reducible show DE _ _ (Expr.Name "int" _) _ _ _); refine de_ty_int (by assumption) ?_) | ((with_reducible show DE _ _ (Expr.Name "str" _) _ _ _); refine de_ty_str (by assumption) ?_) | ((with_reducible show DE _ _ (Expr.Name "bool" _) _ _ _); refine de_ty_bool (by assumption) ?_) | ((with_reducible show DE _ _ (Expr.Name "tuple" _) _ _ _); refine de_ty_tuple (by assumption) ?_) | ((with_reducible show DE _ _ (Expr.Name "list" _) _ _ _); refine de_ty_list (by assumption) ?_) | ((with_reducible show DE _ _ (Expr.Name "dict" _) _ _ _); refine de_ty_dict (by assumption) ?_) | refine de_nm rfl ?_ | refine de_globI (by assumption) ?_) | ((with_reducible show DE _ _ (Expr.Constant _ _ _) _ _ _); first | refine de_int ?_ | refine de_str ?_ | refine de_bl ?_ | refine de_non ?_) | ((with_reducible show DE _ _ (Expr.Call (Expr.Name _ _) _ _ _) _ _ _); first | ((with_reducible show DE _ _ (Expr.Call (Expr.Name "isinstance" _) _ _ _) _ _ _); refine de_isinstance ?_ (by assumption)) | ((with_reducible show DE _ _ (Expr.Call (Expr.Name "len" _) _ _ _) _ _ _); refine de_len ?_ (by assumption)) | ((with_reducible show DE _ _ (Expr.Call (Expr.Name "max" _) _ _ _) _ _ _); refine de_max ?_ (by assumption)) | ((with_reducible show DE _ _ (Expr.Call (Expr.Name "min" _) _ _ _) _ _ _); refine de_min ?_ (by assumption)) | ((with_reducible show DE _ _ (Expr.Call (Expr.Name "all" _) _ _ _) _ _ _); refine de_all ?_ (by assumption)) | ((with_reducible show DE _ _ (Expr.Call (Expr.Name "repr" _) _ _ _) _ _ _); refine de_repr ?_ (by assumption)) | ((with_reducible show DE _ _ (Expr.Call (Expr.Name "divmod" _) _ _ _) _ _ _); refine de_divmod ?_ (by assumption)) | ((with_reducible show DE _ _ (Expr.Call (Expr.Name "list" _) _ _ _) _ _ _); refine de_clist ?_ (by assumption)) | ((with_reducible show DE _ _ (Expr.Call (Expr.Name "tuple" _) _ _ _) _ _ _); refine de_ctuple ?_ (by assumption)) | ((with_reducible show DE _ _ (Expr.Call (Expr.Name "int" _) _ _ _) _ _ _); refine de_cint ?_ (by assumption)) | ((with_reducible show DE _ _ (Expr.Call (Expr.Name "str" _) _ _ _) _ _ _); refine de_cstr ?_ (by assumption)) | walk_at "down") | ((with_reducible show DE _ _ (Expr.BinOp _ _ _ _) _ _ _); refine de_op ?_) | ((with_reducible show DE _ _ (Expr.Compare _ [_] _ _) _ _ _); refine de_cmp ?_) | ((with_reducible show DE _ _ (Expr.Compare _ [_, _] _ _) _ _ _); refine de_chain ?_) | ((with_reducible show DE _ _ (Expr.Subscript _ (Expr.Slice _ _ _ _) _) _ _ _); refine de_slice ?_) | ((with_reducible show DE _ _ (Expr.Subscript _ _ _) _ _ _); refine de_ix ?_) | ((with_reducible show DE _ _ (Expr.BoolOp _ [_] _) _ _ _); refine de_one ?_) | ((with_reducible show DE _ _ (Expr.BoolOp BoolOp.And _ _) _ _ _); refine de_and ?_) | ((with_reducible show DE _ _ (Expr.BoolOp BoolOp.Or _ _) _ _ _); refine de_or ?_) | ((with_reducible show DE _ _ (Expr.UnaryOp UnaryOp.Not _ _) _ _ _); refine de_not ?_) | ((with_reducible show DE _ _ (Expr.UnaryOp _ _ _) _ _ _); refine de_un ?_) | ((with_reducible show DE _ _ (Expr.IfExp _ _ _ _) _ _ _); refine de_ifx ?_) | ((with_reducible show DE _ _ (Expr.Tuple _ _ _) _ _ _); refine de_tup ?_) | ((with_reducible show DE _ _ (Expr.List _ _) _ _ _); walk_at "dlst") | ((with_reducible show DE _ _ (Expr.Dict [] [] _) _ _ _); refine de_dict0 ?_) | walk_at "dhook")
    | ((with_reducible show DA _ _ _ _ _ _); first | ((with_reducible show DA _ _ [] _ _ _); refine da_nil ?_) | ((with_reducible show DA _ _ (_ :: _) _ _ _); refine da_cons ?_))
    | ((with_reducible show BoolR _ _); refine ⟨_, rfl, ?_⟩)
    | ((with_reducible show (_ = true → _) ∧ (_ = false → _)); (refine ⟨fun h => ?_, fun h => ?_⟩ <;> try (exact Bool.noConfusion h)))
    | ((with_reducible show OpD _ _ _ _ _ _ _); first | ((with_reducible show OpD _ _ (binaryOp Operator.Add) _ _ _ _); first | refine op_addI ?_ | refine op_addT ?_) | ((with_reducible show OpD _ _ (binaryOp Operator.Sub) _ _ _ _); refine op_subI ?_) | ((with_reducible show OpD _ _ (binaryOp Operator.Mod) _ _ _ _); refine op_modI (by first | decide | assumption) ?_) | ((with_reducible show OpD _ _ (binaryOp Operator.Mult) _ _ _ _); refine op_mulI (by first | exact .inr (by decide) | exact .inl (by decide) | (exact .inl (by omega))) ?_) | ((with_reducible show OpD _ _ (binaryOp Operator.Pow) _ _ _ _); refine op_powI (by decide) (by decide) (by decide) ?_) | ((with_reducible show OpD _ _ (binaryOp Operator.FloorDiv) _ _ _ _); refine op_fdivI (by decide) (by decide) ?_) | ((with_reducible show OpD _ _ (compareOp CmpOp.Lt) _ _ _ _); refine op_ltI ?_) | ((with_reducible show OpD _ _ (compareOp CmpOp.LtE) _ _ _ _); first | refine op_leI ?_ | refine op_leS ?_) | ((with_reducible show OpD _ _ (compareOp CmpOp.Gt) _ _ _ _); refine op_gtI ?_) | ((with_reducible show OpD _ _ (compareOp CmpOp.GtE) _ _ _ _); refine op_geI ?_) | ((with_reducible show OpD _ _ (compareOp CmpOp.Eq) _ _ _ _); first | refine op_eqI ?_ | refine op_eqS ?_) | ((with_reducible show OpD _ _ (compareOp CmpOp.NotEq) _ _ _ _); first | refine op_neI ?_ | refine op_neS ?_))
    | ((with_reducible show CaD _ _ _ _ _ _); first | ((with_reducible show CaD _ _ (Value.builtin "isinstance") [_, SV.ty "int"] _ _); refine ca_isi (by assumption) (kit_int _ (by assumption)) ?_) | ((with_reducible show CaD _ _ (Value.builtin "isinstance") [_, SV.ty "bool"] _ _); refine ca_isi (by assumption) (kit_bool _ (by assumption)) ?_) | ((with_reducible show CaD _ _ (Value.builtin "isinstance") [_, SV.ty "str"] _ _); refine ca_isi (by assumption) (kit_str _ (by assumption)) ?_) | ((with_reducible show CaD _ _ (Value.builtin "isinstance") [_, SV.ty "tuple"] _ _); refine ca_isi (by assumption) (kit_tuple _ (by assumption)) ?_) | ((with_reducible show CaD _ _ (Value.builtin "isinstance") [_, SV.ty "list"] _ _); refine ca_isi (by assumption) (kit_list _ (by assumption)) ?_) | ((with_reducible show CaD _ _ (Value.builtin "isinstance") [_, SV.ty "dict"] _ _); refine ca_isi (by assumption) (kit_dict _ (by assumption)) ?_) | ((with_reducible show CaD _ _ (Value.builtin "max") _ _ _); refine ca_max2 rfl ?_) | ((with_reducible show CaD _ _ (Value.builtin "min") _ _ _); refine ca_min2 rfl ?_) | ((with_reducible show CaD _ _ (Value.builtin "len") _ _ _); first | refine ca_lenT ?_ | refine ca_lenS (by assumption) ?_ | refine ca_lenSc ?_ | refine ca_lenL (.inl rfl) ?_) | ((with_reducible show CaD _ _ (Value.type "list") _ _ _); refine ca_listT ?_) | ((with_reducible show CaD _ _ (Value.builtin "divmod") _ _ _); refine ca_divmod (by assumption) (by omega) ?_) | walk_at "dca")
    | ((with_reducible show DT _ _ _ _ _ _); first | ((with_reducible show DT _ _ (Expr.BoolOp _ _ _) _ _ _); refine dt_w ?_) | ((with_reducible show DT _ _ (Expr.UnaryOp UnaryOp.Not _ _) _ _ _); refine dt_not ?_) | ((with_reducible show DT _ _ (Expr.Compare _ [_] _ _) _ _ _); refine dt_cmp ?_) | ((with_reducible show DT _ _ (Expr.Compare _ [_, _] _ _) _ _ _); refine dt_chain ?_) | refine dt_val ?_)
    | ((with_reducible show DW _ _ _ _ _ _); first | ((with_reducible show DW _ _ (Expr.BoolOp BoolOp.And [_] _) _ _ _); refine dw_and1 ?_) | ((with_reducible show DW _ _ (Expr.BoolOp BoolOp.Or [_] _) _ _ _); refine dw_or1 ?_) | ((with_reducible show DW _ _ (Expr.BoolOp BoolOp.And _ _) _ _ _); refine dw_and ?_) | ((with_reducible show DW _ _ (Expr.BoolOp BoolOp.Or _ _) _ _ _); refine dw_or ?_))
    | ((with_reducible show DSs _ _ _ _ _ _); first | ((with_reducible show DSs _ _ [] _ _ _); refine dss_nil ?_) | ((with_reducible show DSs _ _ [_] _ _ _); refine dss_one ?_) | ((with_reducible show DSs _ _ (_ :: _) _ _ _); refine dss_cons ?_))
    | ((with_reducible show DS _ _ _ _ _ _); first | ((with_reducible show DS _ _ (Stmt.Return (some _) _) _ _ _); refine ds_ret ?_) | ((with_reducible show DS _ _ (Stmt.If _ _ _ _) _ _ _); refine ds_if ?_) | ((with_reducible show DS _ _ (Stmt.Expr _ _) _ _ _); refine ds_expr ?_) | ((with_reducible show DS _ _ (Stmt.Assign [Expr.Name _ _] _ _) _ _ _); walk_at "dset"))
    | ((with_reducible show DP _ _ none _ _ _); refine dp_none ?_)
    | ((with_reducible show DP _ _ (some _) _ _ _); refine dp_some ?_)
    | ((with_reducible show ∃ d, SV.dat _ = SV.dat d ∧ Fi d ∧ _); refine ⟨_, rfl, by assumption, ?_⟩)
    | ((with_reducible show ∃ i, SV.dat (Dt.int _) = SV.dat (Dt.int i) ∧ _); refine ⟨_, rfl, ?_⟩)
    | ((with_reducible show SlD _ _ (SV.dat (Dt.tup _)) _ _ _ _); refine sl_dT ?_)
    | ((with_reducible show ∃ ds, undat _ = some ds ∧ ds.length ≤ 1000 ∧ _); refine ⟨_, rfl, Nat.le_of_ble_eq_true rfl, ?_⟩)
    | ((with_reducible show ∃ q, SV.at _ = SV.at q ∧ _); refine ⟨_, rfl, ?_⟩)
    | ((with_reducible show ∃ z, SV.dat (Dt.str _) = SV.dat (Dt.str z) ∧ _); refine ⟨_, rfl, ?_⟩)
    | ((with_reducible show IxD _ _ (SV.at _) (SV.dat (Dt.int 0)) _ _); refine ix_pot0 (by assumption) (fun _ _ => ?_))
    | ((with_reducible show IxD _ _ (SV.at _) (SV.dat (Dt.int 1)) _ _); refine ix_pot1 (by assumption) (fun _ _ _ => ?_))
    | ((with_reducible show UnD _ _ (unaryOp UnaryOp.USub) _ _ _); refine un_negI ?_)
    | ((with_reducible show Po.nx _ _ _); dsimp only)
    | ((with_reducible show Po.rt _ _ _); dsimp only))
local macro_rules
  | `(tactic| walk_at "drun") => `(tactic| repeat' (walk_at "dstep"))

section
variable {P : Program} {w : World} {K : PySem.W.Frag} {mg : Str → Option Value} {base : Heap}
/-! ### a number told by a text -/
abbrev sNum : Stmt := top 13
theorem scNum : FnScope ["text"] ["text"] (defScope sNum) := ⟨rfl, rfl, rfl, by decide +kernel, rfl, by decide +kernel, by decide +kernel⟩
set_option hygiene false in
local macro_rules
  | `(tactic| walk_at "dhook") => `(tactic| first | ((with_reducible show DE _ _ (Expr.Call (Expr.Attribute _ "isascii" _) [] [] _) _ _ _); refine de_m0 (d := fun a => .bl (Txt.isascii a)) PySem.F.slot_str_isascii PySem.F.type_str_isascii mt_isascii (fun B a => Dq.bl _) ?_) | ((with_reducible show DE _ _ (Expr.Call (Expr.Attribute _ "isdigit" _) [] [] _) _ _ _); refine de_m0 (d := fun a => .bl (Txt.isdigit a)) PySem.F.slot_str_isdigit PySem.F.type_str_isdigit mt_isdigit (fun B a => Dq.bl _) ?_))
theorem ok_num {f : Addr} {fd : FuncData} (F : Fun K "number_of" "number_of" sNum f fd) (T : Txt mg) : FnG P w K mg base 1 f fd ["text"] spNum := by
  refine fn_pure F scNum (fun ds ⟨d, e, _⟩ => by rw [e]; rfl) fun cdv A outer s H hr hg w' ds μ ⟨l, e, hl, ha⟩ => ?_
  subst e
  obtain ⟨t1, t2, t3, t4, t5, t6, t7, t8, t9, t10, t11, t12, t13, t14, t15, t16, t17, t18⟩ := T
  have hz : (SX.S l).length ≤ sizeLine := by rw [SX.S_len]; exact small_ok hl
  refine dss_cons ?_
  walk_at "drun"
  · rename_i h1 h2
    rw [isascii_S l ha] at h1
    cases h1
  · rename_i h1 h2 h3
    refine ⟨_, rfl, ⟨l, rfl, ?_⟩, Mus.Sub.refl _⟩
    rw [isdigit_S l ha] at h2
    have : ¬ (l ≠ [] ∧ l.all dig = true) := by
      rintro ⟨g1, g2⟩
      rw [g2, decide_eq_true g1] at h2
      cases h2
    unfold numL
    rw [if_neg fun z => this z.1]
  · rename_i h1 h2 h3
    refine ⟨_, rfl, ⟨l, rfl, ?_⟩, Mus.Sub.refl _⟩
    have h3' := of_decide_eq_true h3
    rw [SX.S_len] at h3'
    unfold numL
    rw [if_neg fun z => by have := z.2; omega]
  · rename_i h1 h2 h3
    have h3' := of_decide_eq_false h3
    rw [SX.S_len] at h3'
    rw [isdigit_S l ha] at h2
    have h2' : (decide (l ≠ []) && l.all dig) = true := by simpa using h2
    rw [Bool.and_eq_true, decide_eq_true_eq] at h2'
    have c30 : (l ≠ [] ∧ l.all dig = true) ∧ l.length ≤ 30 := ⟨h2', by omega⟩
    have leaf : ∀ (hn : ¬ (l.head? = some 48 ∧ l ≠ [48])), numL l = .int (NumText.digitsVal l) := fun hn => by
      unfold numL
      rw [if_pos c30, if_neg hn]
    cases l with
    | nil => exact absurd rfl h2'.1
    | cons c r =>
      refine ix_dS hz (c := c) (by
        unfold atI ixN
        have e : (SX.S (c :: r)).cps.toList = c :: r := rfl
        rw [e, if_pos (by decide), if_pos (by simp)]
        rfl) ?_
      have e0 : ("0" : Str) = SX.S [48] := rfl
      have e1 : (⟨#[c]⟩ : Str) = SX.S [c] := rfl
      walk_at "drun"
      · rename_i g1 g2
        have g1' := of_decide_eq_true g1
        refine ⟨_, rfl, ⟨_, rfl, ?_⟩, Mus.Sub.refl _⟩
        rw [e1, e0] at g1'
        have g3 := SX.S_inj g1'
        have g4 : c :: r ≠ [48] := fun z => by
          rw [z, e0] at g2
          simp at g2
        unfold numL
        rw [if_pos c30, if_pos ⟨by cases g3; rfl, g4⟩]
      · rename_i g1 g2
        walk_at "drun"
        refine ca_intS (numL_text (leaf ?_)) (by rw [SX.S_len]; omega) ?_
        · rintro ⟨z1, z2⟩
          have : decide (SX.S (c :: r) = "0") = false := decide_eq_false fun z => z2 (SX.S_inj (z.trans e0))
          rw [this] at g2
          cases g2
        · refine ⟨_, rfl, ⟨_, rfl, ?_⟩, Mus.Sub.refl _⟩
          rw [leaf]
          rintro ⟨z1, z2⟩
          have : decide (SX.S (c :: r) = "0") = false := decide_eq_false fun z => z2 (SX.S_inj (z.trans e0))
          rw [this] at g2
          cases g2
      · rename_i g1 g2
        have g1' := of_decide_eq_false g1
        have hn : ¬ ((c :: r).head? = some 48 ∧ c :: r ≠ [48]) := by
          rintro ⟨z1, z2⟩
          apply g1'
          cases z1
          rfl
        walk_at "drun"
        refine ca_intS (numL_text (leaf hn)) (by rw [SX.S_len]; omega) ?_
        exact ⟨_, rfl, ⟨_, rfl, (leaf hn).symm⟩, Mus.Sub.refl _⟩
/-! ### a WHO as a text -/
end
def partX : Dt → Str
  | .str z => z
  | .int i => Str.ofString (toString i)
  | _ => ""
def Part (d : Dt) : Prop := (∃ l, d = .str (SX.S l) ∧ As 8 l) ∨ ∃ i : Int, d = .int i ∧ 0 ≤ i ∧ i ≤ 11
def whoX (ws : List Dt) : Str := Txt.join "." (ws.map partX)
def spWhoText : Sp := PSp (fun ds => ∃ ws, ds = [.tup ws] ∧ ws.length ≤ 400 ∧ ∀ d, d ∈ ws → Part d) (fun ds r => ∃ ws, ds = [.tup ws] ∧ r = .str (whoX ws))
def spEndText : Sp := PSp (fun ds => ∃ ws d, ds = [.tup [.tup ws, d]] ∧ ws.length ≤ 400 ∧ (∀ d, d ∈ ws → Part d) ∧ Part d) (fun ds r => ∃ ws d, ds = [.tup [.tup ws, d]] ∧ r = .str (whoX ws ++ ":" ++ partX d))
theorem log_small {i : Int} (h0 : 0 ≤ i) (h : i ≤ 11) : i.natAbs.log2 < 1920 := by
  have : i.natAbs ≤ 11 := by omega
  have : i.natAbs.log2 ≤ i.natAbs := Nat.log2_le_self _
  omega
theorem partX_len {d : Dt} (h : Part d) : (partX d).length ≤ 31 := by
  rcases h with ⟨l, rfl, hl⟩ | ⟨i, rfl, h0, h1⟩
  · show (SX.S l).length ≤ 31
    rw [SX.S_len]
    have := hl.1
    omega
  · exact int_len (by omega)
theorem parts_sum : ∀ ws : List Dt, (∀ d, d ∈ ws → Part d) → ((ws.map partX).map (·.length)).sum ≤ ws.length * 31
  | [], _ => by simp
  | d :: ws, h => by
    have h1 := parts_sum ws fun e he => h e (List.mem_cons_of_mem _ he)
    have h2 := partX_len (h d List.mem_cons_self)
    rw [List.map_cons, List.map_cons, List.sum_cons, List.length_cons]
    omega
theorem whoX_len {ws : List Dt} (h : ∀ d, d ∈ ws → Part d) : (whoX ws).length ≤ ws.length * 32 := by
  have e : whoX ws = Builtin.Str.glued "." (ws.map partX) := rfl
  rw [e, PySem.size_glued, List.length_map]
  have := parts_sum ws h
  have e1 : ("." : Str).length = 1 := rfl
  rw [e1]
  omega
section
variable {P : Program} {w : World} {K : PySem.W.Frag} {mg : Str → Option Value} {base : Heap}
set_option hygiene false in
local macro_rules
  | `(tactic| walk_at "dca") => `(tactic| ((with_reducible show CaD _ _ (Value.type "str") _ _ _); first | refine ca_strS ?_ | refine ca_strI (by assumption) ?_))
set_option hygiene false in
local macro_rules
  | `(tactic| walk_at "down") => `(tactic| ((with_reducible show DE _ _ (Expr.Call (Expr.Name "str" _) _ _ _) _ _ _); refine de_cstr ?_ (by assumption)))
abbrev sWhoText : Stmt := top 15
theorem scWhoText : FnScope ["who", "part"] ["who"] (defScope sWhoText) := ⟨rfl, rfl, rfl, by decide +kernel, rfl, by decide +kernel, by decide +kernel⟩
theorem ok_whotext {f : Addr} {fd : FuncData} (F : Fun K "who_text" "who_text" sWhoText f fd) (T : Txt mg) : FnG P w K mg base 1 f fd ["who"] spWhoText := by
  refine fn_pure F scWhoText (fun ds ⟨d, e, _⟩ => by rw [e]; rfl) fun cdv A outer s H hr hg w' ds μ ⟨ws, e, hl, hp⟩ => ?_
  subst e
  obtain ⟨t1, t2, t3, t4, t5, t6, t7, t8, t9, t10, t11, t12, t13, t14, t15, t16, t17, t18⟩ := T
  have hN : (["who", "part"] : List Str).Nodup := by decide +kernel
  refine dss_one (ds_ret (de_join ?_))
  walk_at "drun"
  refine de_lc 1 rfl hN (blkOk_by (N := ["who", "part"]) (sc := defScope sWhoText) (by decide +kernel)) ?_
  refine di_tup ?_
  walk_at "drun"
  refine ⟨_, rfl, lc_map (fun d => .str (partX d)) (by omega) ?_ ?_⟩
  · intro d hd w2 k
    rcases hp d hd with ⟨l, rfl, hl⟩ | ⟨i, rfl, h0, h1⟩
    · walk_at "drun"
      exact ⟨rfl, rfl⟩
    · have hi := log_small h0 h1
      walk_at "drun"
      exact ⟨rfl, rfl⟩
  · refine ⟨ws.map partX, .inl (by rw [List.map_map]; rfl), ?_, ?_⟩
    · have := parts_sum ws hp
      have e1 : ("." : Str).length = 1 := rfl
      rw [List.length_map, e1]
      omega
    · exact ⟨_, rfl, ⟨ws, rfl, rfl⟩, Mus.Sub.refl _⟩
abbrev sEndText : Stmt := top 16
theorem scEndText : FnScope ["end", "who", "number"] ["end"] (defScope sEndText) := ⟨rfl, rfl, rfl, by decide +kernel, rfl, by decide +kernel, by decide +kernel⟩
theorem ok_endtext {f : Addr} {fd : FuncData} (F : Fun K "end_text" "end_text" sEndText f fd) (T : Txt mg) (oWhoText : Own P w K mg base "who_text" 1 spWhoText) : FnG P w K mg base 2 f fd ["end"] spEndText := by
  refine fn_pure F scEndText (fun ds ⟨ws, d, e, _⟩ => by rw [e]; rfl) fun cdv A outer s H hr hg w' ds μ ⟨ws, d, e, hl, hp, hpd⟩ => ?_
  subst e
  obtain ⟨t1, t2, t3, t4, t5, t6, t7, t8, t9, t10, t11, t12, t13, t14, t15, t16, t17, t18⟩ := T
  have hN : (["end", "who", "number"] : List Str).Nodup := by decide +kernel
  refine dss_cons (ds_asg ?_)
  walk_at "drun"
  refine dg_tup rfl (dgs_cons (dg_name 1 hN (dgs_cons (dg_name 2 hN (dgs_nil ?_)) rfl)) rfl) rfl
  walk_at "drun"
  have hw := whoX_len hp
  have hx := partX_len hpd
  have e1 : (":" : Str).length = 1 := rfl
  have e0 : ∀ x : Str, Str.empty ++ x = x := fun x => by rw [← SX.S_tl x]; exact (SX.S_cat [] _)
  have la : ∀ x y : Str, (x ++ y).length = x.length + y.length := fun x y => by
    rw [← SX.S_tl x, ← SX.S_tl y, SX.S_cat, SX.S_len, SX.S_len, SX.S_len, List.length_append]
  have hs : ∀ n : Nat, n ≤ 20000 → n ≤ sizeLine := fun n h => by rw [sizeLine_eq]; omega
  refine de_joined (dj_cons (de_fmt ?_))
  refine de_pure oWhoText hr (by decide) hg ?_
  walk_at "drun"
  refine ⟨_, rfl, ⟨ws, rfl, hl, hp⟩, ?_⟩
  rintro _ ⟨ws', e, rfl⟩
  cases e
  refine .inl ⟨_, rfl, hs _ (by omega), _, rfl, hs _ (by rw [e0]; omega), ?_⟩
  rw [e0]
  refine dj_cons ?_
  walk_at "drun"
  refine ⟨hs _ (by rw [la, e1]; omega), dj_cons (de_fmt ?_)⟩
  rcases hpd with ⟨l, rfl, hl2⟩ | ⟨i, rfl, h0, h1⟩
  · walk_at "drun"
    refine .inl ⟨_, rfl, hs _ (by have : (SX.S l).length ≤ 31 := hx; omega), _, rfl, hs _ (by rw [la, la, e1]; have : (SX.S l).length ≤ 31 := hx; omega), dj_nil ?_⟩
    exact ⟨_, rfl, ⟨ws, _, rfl, rfl⟩, Mus.Sub.refl _⟩
  · walk_at "drun"
    refine .inr ⟨i, rfl, log_small h0 h1, _, rfl, hs _ (by rw [la, la, e1]; have : (Str.ofString (toString i)).length ≤ 31 := hx; omega), dj_nil ?_⟩
    exact ⟨_, rfl, ⟨ws, _, rfl, rfl⟩, Mus.Sub.refl _⟩
end
end K18

set_option Elab.async false
set_option linter.all false
set_option maxRecDepth 100000
set_option maxHeartbeats 4000000
namespace K18
open PySem PySem.Spec PyProof.Rows L2 Dat
local macro_rules
  | `(tactic| walk_at "down") => `(tactic| fail "none")
local macro_rules
  | `(tactic| walk_at "dset") => `(tactic| fail "none")
local macro_rules
  | `(tactic| walk_at "dhook") => `(tactic| fail "none")
local macro_rules
  | `(tactic| walk_at "dca") => `(tactic| fail "none")
local macro_rules
  | `(tactic| walk_at "dlst") => `(tactic| refine de_lst ?_)
local macro_rules
  | `(tactic| walk_at "dstep") => `(tactic| first
    | ((with_reducible show DE _ _ _ _ _ _); first | ((with_reducible show DE _ _ (Expr.Name _ _) _ _ _); first | ((with_reducible show DE _ _ (Expr.Name "int" _) _ _ _); refine de_ty_int (by assumption) ?_) | ((with_reducible show DE _ _ (Expr.Name "str" _) _ _ _); refine de_ty_str (by assumption) ?_) | ((with_reducible show DE _ _ (Expr.Name "bool" _) _ _ _); refine de_ty_bool (by assumption) ?_) | ((with_reducible show DE _ _ (Expr.Name "tuple" _) _ _ _); refine de_ty_tuple (by assumption) ?_) | ((with_reducible show DE _ _ (Expr.Name "list" _) _ _ _); refine de_ty_list (by assumption) ?_) | ((with_reducible show DE _ _ (Expr.Name "dict" _) _ _ _); refine de_ty_dict (by assumption) ?_) | refine de_nm rfl ?_ | refine de_globI (by assumption) ?_) | ((with_reducible show DE _ _ (Expr.Constant _ _ _) _ _ _); first | refine de_int ?_ | refine de_str ?_ | refine de_bl ?_ | refine de_non ?_) | ((with_reducible show DE _ _ (Expr.Call (Expr.Name _ _) _ _ _) _ _ _); first | ((with_reducible show DE _ _ (Expr.Call (Expr.Name "isinstance" _) _ _ _) _ _ _); refine de_isinstance ?_ (by assumption)) | ((with_reducible show DE _ _ (Expr.Call (Expr.Name "len" _) _ _ _) _ _ _); refine de_len ?_ (by assumption)) | ((with_reducible show DE _ _ (Expr.Call (Expr.Name "max" _) _ _ _) _ _ _); refine de_max ?_ (by assumption)) | ((with_reducible show DE _ _ (Expr.Call (Expr.Name "min" _) _ _ _) _ _ _); refine de_min ?_ (by assumption)) | ((with_reducible show DE _ _ (Expr.Call (Expr.Name "all" _) _ _ _) _ _ _); refine de_all ?_ (by assumption)) | ((with_reducible show DE _ _ (Expr.Call (Expr.Name "repr" _) _ _ _) _ _ _); refine de_repr ?_ (by assumption)) | ((with_reducible show DE _ _ (Expr.Call (Expr.Name "divmod" _) _ _ _) _ _ _); refine de_divmod ?_ (by assumption)) | ((with_reducible show DE _ _ (Expr.Call (Expr.Name "list" _) _ _ _) _ _ _); refine de_clist ?_ (by assumption)) | ((with_reducible show DE _ _ (Expr.Call (Expr.Name "tuple" _) _ _ _) _ _ _); refine de_ctuple ?_ (by assumption)) | ((with_reducible show DE _ _ (Expr.Call (Expr.Name "int" _) _ _ _) _ _ _); refine de_cint ?_ (by assumption)) | ((with_reducible show DE _ _ (Expr.Call (Expr.Name "str" _) _ _ _) _ _ _); refine de_cstr ?_ (by assumption)) | walk_at "down") | ((with_reducible show DE _ _ (Expr.BinOp _ _ _ _) _ _ _); refine de_op ?_) | ((with_reducible show DE _ _ (Expr.Compare _ [_] _ _) _ _ _); refine de_cmp ?_) | ((with_reducible show DE _ _ (Expr.Compare _ [_, _] _ _) _ _ _); refine de_chain ?_) | ((with_reducible show DE _ _ (Expr.Subscript _ (Expr.Slice _ _ _ _) _) _ _ _); refine de_slice ?_) | ((with_reducible show DE _ _ (Expr.Subscript _ _ _) _ _ _); refine de_ix ?_) | ((with_reducible show DE _ _ (Expr.BoolOp _ [_] _) _ _ _); refine de_one ?_) | ((with_reducible show DE _ _ (Expr.BoolOp BoolOp.And _ _) _ _ _); refine de_and ?_) | ((with_reducible show DE _ _ (Expr.BoolOp BoolOp.Or _ _) _ _ _); refine de_or ?_) | ((with_reducible show DE _ _ (Expr.UnaryOp UnaryOp.Not _ _) _ _ _); refine de_not ?_) | ((with_reducible show DE _ _ (Expr.UnaryOp _ _ _) _ _ _); refine de_un ?_) | ((with_reducible show DE _ _ (Expr.IfExp _ _ _ _) _ _ _); refine de_ifx ?_) | ((with_reducible show DE _ _ (Expr.Tuple _ _ _) _ _ _); refine de_tup ?_) | ((with_reducible show DE _ _ (Expr.List _ _) _ _ _); walk_at "dlst") | ((with_reducible show DE _ _ (Expr.Dict [] [] _) _ _ _); refine de_dict0 ?_) | walk_at "dhook")
    | ((with_reducible show DA _ _ _ _ _ _); first | ((with_reducible show DA _ _ [] _ _ _); refine da_nil ?_) | ((with_reducible show DA _ _ (_ :: _) _ _ _); refine da_cons ?_))
    | ((with_reducible show BoolR _ _); refine ⟨_, rfl, ?_⟩)
    | ((with_reducible show (_ = true → _) ∧ (_ = false → _)); (refine ⟨fun h => ?_, fun h => ?_⟩ <;> try (exact Bool.noConfusion h)))
    | ((with_reducible show OpD _ _ _ _ _ _ _); first | ((with_reducible show OpD _ _ (binaryOp Operator.Add) _ _ _ _); first | refine op_addI ?_ | refine op_addT ?_) | ((with_reducible show OpD _ _ (binaryOp Operator.Sub) _ _ _ _); refine op_subI ?_) | ((with_reducible show OpD _ _ (binaryOp Operator.Mod) _ _ _ _); refine op_modI (by first | decide | assumption) ?_) | ((with_reducible show OpD _ _ (binaryOp Operator.Mult) _ _ _ _); refine op_mulI (by first | exact .inr (by decide) | exact .inl (by decide) | (exact .inl (by omega))) ?_) | ((with_reducible show OpD _ _ (binaryOp Operator.Pow) _ _ _ _); refine op_powI (by decide) (by decide) (by decide) ?_) | ((with_reducible show OpD _ _ (binaryOp Operator.FloorDiv) _ _ _ _); refine op_fdivI (by decide) (by decide) ?_) | ((with_reducible show OpD _ _ (compareOp CmpOp.Lt) _ _ _ _); refine op_ltI ?_) | ((with_reducible show OpD _ _ (compareOp CmpOp.LtE) _ _ _ _); first | refine op_leI ?_ | refine op_leS ?_) | ((with_reducible show OpD _ _ (compareOp CmpOp.Gt) _ _ _ _); refine op_gtI ?_) | ((with_reducible show OpD _ _ (compareOp CmpOp.GtE) _ _ _ _); refine op_geI ?_) | ((with_reducible show OpD _ _ (compareOp CmpOp.Eq) _ _ _ _); first | refine op_eqI ?_ | refine op_eqS ?_) | ((with_reducible show OpD _ _ (compareOp CmpOp.NotEq) _ _ _ _); first | refine op_neI ?_ | refine op_neS ?_))
    | ((with_reducible show CaD _ _ _ _ _ _); first | ((with_reducible show CaD _ _ (Value.builtin "isinstance") [_, SV.ty "int"] _ _); refine ca_isi (by assumption) (kit_int _ (by assumption)) ?_) | ((with_reducible show CaD _ _ (Value.builtin "isinstance") [_, SV.ty "bool"] _ _); refine ca_isi (by assumption) (kit_bool _ (by assumption)) ?_) | ((with_reducible show CaD _ _ (Value.builtin "isinstance") [_, SV.ty "str"] _ _); refine ca_isi (by assumption) (kit_str _ (by assumption)) ?_) | ((with_reducible show CaD _ _ (Value.builtin "isinstance") [_, SV.ty "tuple"] _ _); refine ca_isi (by assumption) (kit_tuple _ (by assumption)) ?_) | ((with_reducible show CaD _ _ (Value.builtin "isinstance") [_, SV.ty "list"] _ _); refine ca_isi (by assumption) (kit_list _ (by assumption)) ?_) | ((with_reducible show CaD _ _ (Value.builtin "isinstance") [_, SV.ty "dict"] _ _); refine ca_isi (by assumption) (kit_dict _ (by assumption)) ?_) | ((with_reducible show CaD _ _ (Value.builtin "max") _ _ _); refine ca_max2 rfl ?_) | ((with_reducible show CaD _ _ (Value.builtin "min") _ _ _); refine ca_min2 rfl ?_) | ((with_reducible show CaD _ _ (Value.builtin "len") _ _ _); first | refine ca_lenT ?_ | refine ca_lenS (by assumption) ?_ | refine ca_lenSc ?_ | refine ca_lenL (.inl rfl) ?_) | ((with_reducible show CaD _ _ (Value.type "list") _ _ _); refine ca_listT ?_) | ((with_reducible show CaD _ _ (Value.builtin "divmod") _ _ _); refine ca_divmod (by assumption) (by omega) ?_) | walk_at "dca")
    | ((with_reducible show DT _ _ _ _ _ _); first | ((with_reducible show DT _ _ (Expr.BoolOp _ _ _) _ _ _); refine dt_w ?_) | ((with_reducible show DT _ _ (Expr.UnaryOp UnaryOp.Not _ _) _ _ _); refine dt_not ?_) | ((with_reducible show DT _ _ (Expr.Compare _ [_] _ _) _ _ _); refine dt_cmp ?_) | ((with_reducible show DT _ _ (Expr.Compare _ [_, _] _ _) _ _ _); refine dt_chain ?_) | refine dt_val ?_)
    | ((with_reducible show DW _ _ _ _ _ _); first | ((with_reducible show DW _ _ (Expr.BoolOp BoolOp.And [_] _) _ _ _); refine dw_and1 ?_) | ((with_reducible show DW _ _ (Expr.BoolOp BoolOp.Or [_] _) _ _ _); refine dw_or1 ?_) | ((with_reducible show DW _ _ (Expr.BoolOp BoolOp.And _ _) _ _ _); refine dw_and ?_) | ((with_reducible show DW _ _ (Expr.BoolOp BoolOp.Or _ _) _ _ _); refine dw_or ?_))
    | ((with_reducible show DSs _ _ _ _ _ _); first | ((with_reducible show DSs _ _ [] _ _ _); refine dss_nil ?_) | ((with_reducible show DSs _ _ [_] _ _ _); refine dss_one ?_) | ((with_reducible show DSs _ _ (_ :: _) _ _ _); refine dss_cons ?_))
    | ((with_reducible show DS _ _ _ _ _ _); first | ((with_reducible show DS _ _ (Stmt.Return (some _) _) _ _ _); refine ds_ret ?_) | ((with_reducible show DS _ _ (Stmt.If _ _ _ _) _ _ _); refine ds_if ?_) | ((with_reducible show DS _ _ (Stmt.Expr _ _) _ _ _); refine ds_expr ?_) | ((with_reducible show DS _ _ (Stmt.Assign [Expr.Name _ _] _ _) _ _ _); walk_at "dset"))
    | ((with_reducible show DP _ _ none _ _ _); refine dp_none ?_)
    | ((with_reducible show DP _ _ (some _) _ _ _); refine dp_some ?_)
    | ((with_reducible show ∃ d, SV.dat _ = SV.dat d ∧ Fi d ∧ _); refine ⟨_, rfl, by assumption, ?_⟩)
    | ((with_reducible show ∃ i, SV.dat (Dt.int _) = SV.dat (Dt.int i) ∧ _); refine ⟨_, rfl, ?_⟩)
    | ((with_reducible show SlD _ _ (SV.dat (Dt.tup _)) _ _ _ _); refine sl_dT ?_)
    | ((with_reducible show ∃ ds, undat _ = some ds ∧ ds.length ≤ 1000 ∧ _); refine ⟨_, rfl, Nat.le_of_ble_eq_true rfl, ?_⟩)
    | ((with_reducible show ∃ q, SV.at _ = SV.at q ∧ _); refine ⟨_, rfl, ?_⟩)
    | ((with_reducible show ∃ z, SV.dat (Dt.str _) = SV.dat (Dt.str z) ∧ _); refine ⟨_, rfl, ?_⟩)
    | ((with_reducible show IxD _ _ (SV.at _) (SV.dat (Dt.int 0)) _ _); refine ix_pot0 (by assumption) (fun _ _ => ?_))
    | ((with_reducible show IxD _ _ (SV.at _) (SV.dat (Dt.int 1)) _ _); refine ix_pot1 (by assumption) (fun _ _ _ => ?_))
    | ((with_reducible show UnD _ _ (unaryOp UnaryOp.USub) _ _ _); refine un_negI ?_)
    | ((with_reducible show Po.nx _ _ _); dsimp only)
    | ((with_reducible show Po.rt _ _ _); dsimp only))
local macro_rules
  | `(tactic| walk_at "drun") => `(tactic| repeat' (walk_at "dstep"))

theorem whoP_not {d : Dt} (h : isStr d = false) : whoP d = none := by
  cases d <;> simp_all [isStr, whoP]
set_option hygiene false in
local macro_rules
  | `(tactic| walk_at "down") => `(tactic| first | ((with_reducible show DE _ _ (Expr.Call (Expr.Name "number_of" _) _ _ _) _ _ _); refine de_pure oNum hr (by decide) hg ?_) | ((with_reducible show DE _ _ (Expr.Call (Expr.Name "is_who" _) _ _ _) _ _ _); refine de_p1 oWho hr (by decide) hg ?_))
set_option hygiene false in
local macro_rules
  | `(tactic| walk_at "dhook") => `(tactic| ((with_reducible show DE _ _ (Expr.Call (Expr.Attribute _ "split" _) [_] [] _) _ _ _); refine de_split ?_))
section
variable {P : Program} {w : World} {K : PySem.W.Frag} {mg : Str → Option Value} {base : Heap}
abbrev sWhoOf : Stmt := top 17
abbrev nWhoOf : List Str := ["text", "parts", "who", "part"]
theorem scWhoOf : FnScope nWhoOf ["text"] (defScope sWhoOf) := ⟨rfl, rfl, rfl, by decide +kernel, rfl, by decide +kernel, by decide +kernel⟩
theorem ok_whoof {f FE W C : Addr} {fd : FuncData} (F : Fun K "who_of" "who_of" sWhoOf f fd) (T : Txt mg) (Er : Err K mg FE W C) (oNum : Own P w K mg base "number_of" 1 spNum) (oWho : Own P w K mg base "is_who" 3 spWho) : FnX P w K mg base 4 f fd ["text"] (spWhoOf C) := by
  refine fnx_ok F scWhoOf (fun rs μ ⟨d, e, _⟩ => by rw [e]; rfl) fun cdv A outer s H E hr hg w' rs μ ⟨d, e, hd⟩ hE => ?_
  subst e
  obtain ⟨t1, t2, t3, t4, t5, t6, t7, t8, t9, t10, t11, t12, t13, t14, t15, t16, t17, t18⟩ := T
  have hN : nWhoOf.Nodup := by decide +kernel
  have rai : Raises (bxx P w K mg base nWhoOf "who_of" sWhoOf f cdv A outer s H E) (.ref C) := raises_own Er.b Er.t
  have ho : isObj' d = false := by
    rcases hd with ⟨l, rfl, _⟩ | ⟨_, h⟩
    · rfl
    · exact h
  refine dss_cons ?_
  rcases hd with ⟨l, rfl, hl⟩ | ⟨hs, _⟩
  · have hz : (SX.S l).length ≤ 640 := by rw [SX.S_len]; exact hl.1
    obtain ⟨p, ps, e2, hp, hps, hq⟩ := splD_as hl
    have eP : whoP (.str (SX.S l)) = whoT (p :: ps) := by rw [← e2]; rfl
    walk_at "drun"
    refine ds_set 1 hN ?_
    walk_at "drun"
    refine ⟨rfl, small_ok (by omega), ?_⟩
    rw [split_eq, e2, List.map_cons]
    walk_at "drun"
    refine ds_set 2 hN ?_
    walk_at "drun"
    refine ix_dL (.inl rfl) (atI_head _ _) ?_
    walk_at "drun"
    refine de_lc 3 rfl hN (blkOk_by (N := nWhoOf) (sc := defScope sWhoOf) (by decide +kernel)) ?_
    refine di_lst ?_
    walk_at "drun"
    refine sl_dL (.inl rfl) ?_
    rw [cut_tail]
    refine ⟨_, rfl, lc_map (fun d => match d with | .str z => numL z.cps.toList | _ => .non) (by rw [List.length_map]; omega) ?_ ?_⟩
    · intro d hd w2 k
      obtain ⟨q, hqm, rfl⟩ := List.mem_map.mp hd
      have hqa := hq q hqm
      walk_at "drun"
      refine ⟨_, rfl, ⟨q, rfl, by have := hqa.1; omega, hqa.2⟩, ?_⟩
      rintro _ ⟨q', e, rfl⟩
      have e3 : q = q' := by
        have := List.head_eq_of_cons_eq e
        injection this with h
        exact SX.S_inj h
      exact ⟨by rw [← e3], rfl⟩
    have em : (ps.map fun p => Dt.str (SX.S p)).map (fun d => match d with | .str z => numL z.cps.toList | _ => Dt.non) = ps.map numL := by
      rw [List.map_map]
      rfl
    rw [em]
    walk_at "drun"
    refine ca_tupL (.inl rfl) ?_
    refine op_addT (small_ok (by simp; omega)) ?_
    have hfi : Fi (.tup (.str (SX.S p) :: ps.map numL)) := by
      refine ⟨1, by simp; omega, fun d hd => ?_⟩
      rcases List.mem_cons.mp hd with rfl | h
      · exact fine_str 0 ⟨by rw [SX.S_len]; have := hp.1; omega, fun c hc => by have := hp.2 c hc; omega⟩
      · obtain ⟨q, _, rfl⟩ := List.mem_map.mp h
        exact numL_fine q 0
    walk_at "drun"
    · rename_i h1 h2
      refine ds_raiseV (takes_of rfl rfl rfl rfl) rfl Er.x Er.gC Er.k rai (fun σ B H S I => hE ⟨_, rfl, ?_⟩ B H μ (Mus.Sub.refl _) I)
      have h2' : whoD (.tup (.str (SX.S p) :: ps.map numL)) = false := by simpa using h2
      rw [eP]
      show (if whoD (.tup (.str (SX.S p) :: ps.map numL)) = true then some _ else none) = none
      rw [if_neg (by rw [h2']; decide)]
    · rename_i h1 h2
      have h2' : whoD (.tup (.str (SX.S p) :: ps.map numL)) = true := by simpa using h2
      refine ⟨μ, Mus.Sub.refl _, _, .tup (.str (SX.S p) :: ps.map numL), rfl, ?_, rfl, rfl⟩
      rw [eP]
      exact if_pos h2'
  · have hs' : (!isStr d) = true := by simpa using hs
    walk_at "drun"
    · refine ds_raiseV (takes_of rfl rfl rfl rfl) rfl Er.x Er.gC Er.k rai (fun σ B H S I => hE ⟨_, rfl, whoP_not hs⟩ B H μ (Mus.Sub.refl _) I)
    all_goals rename_i h
    all_goals rw [hs'] at h
    all_goals cases h
end
end K18

set_option Elab.async false
set_option linter.all false
set_option maxRecDepth 100000
set_option maxHeartbeats 4000000
namespace Dat
open PySem PySem.Spec PyProof.Rows L2
def isNon : Dt → Bool
  | .non => true
  | _ => false
theorem op_isD {X : Cx} {w : Wd} {μ : Mus} {R : SV → Mus → Prop} {d : Dt} (h : R (.dat (.bl (isNon d))) μ) : OpD X w (compareOp .Is) (.dat d) (.dat .non) μ R := fun B H v u I q1 q2 Q k => by
  cases q2
  have e : decide (v = V.non) = isNon d := by cases q1 <;> simp [isNon]
  exact sO_of op_isN ⟨rfl, by rw [e]; exact k (.bl _) (.dat (.bl _)) B H μ I (Ex.refl B) (Dq.bl _) h⟩
theorem tup_len {ds : List Dt} {L : Nat} (hl : ∀ d, d ∈ ds → (toPy d).shown.length ≤ L) : (toPy (.tup ds)).shown.length ≤ ds.length * (L + 2) + 3 := by
  simp only [toPy, PyData.shown, toPyA_map, shownAll_map, List.map_map]
  have q := piled_le (L := L) (ds.map (PyData.shown ∘ toPy)) fun t ht => by
    obtain ⟨d, hd, rfl⟩ := List.mem_map.mp ht
    exact hl d hd
  have z := tupleText_le (ds.map (PyData.shown ∘ toPy))
  rw [List.length_map] at q
  omega
theorem lst_len {ds : List Dt} {L : Nat} (hl : ∀ d, d ∈ ds → (toPy d).shown.length ≤ L) : (toPy (.lst ds)).shown.length ≤ ds.length * (L + 2) + 3 := by
  simp only [toPy, PyData.shown, toPyA_map, shownAll_map, List.map_map]
  have q := piled_le (L := L) (ds.map (PyData.shown ∘ toPy)) fun t ht => by
    obtain ⟨d, hd, rfl⟩ := List.mem_map.mp ht
    exact hl d hd
  have z := listText_le (ds.map (PyData.shown ∘ toPy))
  rw [List.length_map] at q
  omega
theorem shown_of {S M n : Nat} {d : Dt} (h : fine S M n d) (hl : (toPy d).shown.length ≤ 16777216) (hn : n ≤ 60) (h1 : hasDic d = false) : Shown d := by
  obtain ⟨a, b, c⟩ := fine_rest n d h
  exact ⟨c, fun z => (by rw [hasDic_py, h1] at z; cases z), a, by rw [sizeLine_eq]; exact hl, Nat.le_trans b hn⟩
theorem str_len {x : Str} (h : ∀ c ∈ x.cps.toList, c < 256) : (toPy (.str x)).shown.length ≤ 4 * x.length + 2 := by
  simp only [toPy, PyData.shown]
  exact reprText_le x h
theorem int_shown {i : Int} (h : i.natAbs < 10 ^ 30) : (toPy (.int i)).shown.length ≤ 31 := by
  simp only [toPy, PyData.shown]
  exact int_len h
structure OwnX (P : Program) (w : World) (K : PySem.W.Frag) (mg : Str → Option Value) (base : Heap) (x : Str) (k : Nat) (ps : List Str) (sp : Sp) : Prop where
  ex : ∃ f fd, FnX P w K mg base k f fd ps sp ∧ mg x = some (.ref f) ∧ PySem.W.keepIn K (.ref f) = true ∧ Binds K fd ps [] ∧ ∀ nm, ps = [nm] → ∀ (s : Shared) (u : Value), BindsTo s fd ⟨[], [(nm, u)]⟩ [(nm, u)]
theorem de_ownX {X : Cx} {w : Wd} {ρ : List SV} {μ : Mus} {R : SV → Mus → Prop} {e : Expr} {es : List Expr} {x : Str} {p pos : Pos} {j k : Nat} {C : Addr} {ps : List Str} {W : WX} {pre : List SV → Mus → Prop} {post : List SV → Mus → SV → Mus → Prop} {exc : List SV → Mus → Prop} (O : OwnX X.prog X.w X.K X.mg X.base x k ps (XSp C pre post exc)) (tk : Takes X W) (hr : Room j X.A) (hkj : k ≤ j) (hgd : X.A.guards = some [])
    (ha : DA X w (e :: es) ρ μ fun rs μ1 => pre rs μ1 ∧ (∀ r μ2, post rs μ1 r μ2 → R r μ2) ∧ (exc rs μ1 → ∀ σ B H, Sto B σ ρ → SInv w B H μ1 → W (.ref C) none σ H)) (hg : Gl X x := by rfl) (hdb : (x == ("__debug__" : Str)) = false := by decide)
    (he : starEach (e :: es) X.env = (false, eval e X.env) :: starEach es X.env := by rfl) (hpl : (backTo pos (starEach es X.env)).any (·.1) = false := by rfl) : DE X w (.Call (.Name x p) (e :: es) [] pos) ρ μ R := by
  obtain ⟨f, fd, F, hm, hk, hb, _⟩ := O.ex
  exact de_callX F tk (hr.mono hkj) hgd hm hk hb ha hg hdb he hpl
end Dat
namespace K18
open PySem PySem.Spec PyProof.Rows L2 Dat
local macro_rules
  | `(tactic| walk_at "down") => `(tactic| fail "none")
local macro_rules
  | `(tactic| walk_at "dset") => `(tactic| fail "none")
local macro_rules
  | `(tactic| walk_at "dhook") => `(tactic| fail "none")
local macro_rules
  | `(tactic| walk_at "dca") => `(tactic| fail "none")
local macro_rules
  | `(tactic| walk_at "dlst") => `(tactic| refine de_lst ?_)
local macro_rules
  | `(tactic| walk_at "dstep") => `(tactic| first
    | ((with_reducible show DE _ _ _ _ _ _); first | ((with_reducible show DE _ _ (Expr.Name _ _) _ _ _); first | ((with_reducible show DE _ _ (Expr.Name "int" _) _ _ _); refine de_ty_int (by assumption) ?_) | ((with_reducible show DE _ _ (Expr.Name "str" _) _ _ _); refine de_ty_str (by assumption) ?_) | ((with_reducible show DE _ _ (Expr.Name "bool" _) _ _ _); refine de_ty_bool (by assumption) ?_) | ((with_reducible show DE _ _ (Expr.Name "tuple" _) _ _ _); refine de_ty_tuple (by assumption) ?_) | ((with_reducible show DE _ _ (Expr.Name "list" _) _ _ _); refine de_ty_list (by assumption) ?_) | ((with_reducible show DE _ _ (Expr.Name "dict" _) _ _ _); refine de_ty_dict (by assumption) ?_) | refine de_nm rfl ?_ | refine de_globI (by assumption) ?_) | ((with_reducible show DE _ _ (Expr.Constant _ _ _) _ _ _); first | refine de_int ?_ | refine de_str ?_ | refine de_bl ?_ | refine de_non ?_) | ((with_reducible show DE _ _ (Expr.Call (Expr.Name _ _) _ _ _) _ _ _); first | ((with_reducible show DE _ _ (Expr.Call (Expr.Name "isinstance" _) _ _ _) _ _ _); refine de_isinstance ?_ (by assumption)) | ((with_reducible show DE _ _ (Expr.Call (Expr.Name "len" _) _ _ _) _ _ _); refine de_len ?_ (by assumption)) | ((with_reducible show DE _ _ (Expr.Call (Expr.Name "max" _) _ _ _) _ _ _); refine de_max ?_ (by assumption)) | ((with_reducible show DE _ _ (Expr.Call (Expr.Name "min" _) _ _ _) _ _ _); refine de_min ?_ (by assumption)) | ((with_reducible show DE _ _ (Expr.Call (Expr.Name "all" _) _ _ _) _ _ _); refine de_all ?_ (by assumption)) | ((with_reducible show DE _ _ (Expr.Call (Expr.Name "repr" _) _ _ _) _ _ _); refine de_repr ?_ (by assumption)) | ((with_reducible show DE _ _ (Expr.Call (Expr.Name "divmod" _) _ _ _) _ _ _); refine de_divmod ?_ (by assumption)) | ((with_reducible show DE _ _ (Expr.Call (Expr.Name "list" _) _ _ _) _ _ _); refine de_clist ?_ (by assumption)) | ((with_reducible show DE _ _ (Expr.Call (Expr.Name "tuple" _) _ _ _) _ _ _); refine de_ctuple ?_ (by assumption)) | ((with_reducible show DE _ _ (Expr.Call (Expr.Name "int" _) _ _ _) _ _ _); refine de_cint ?_ (by assumption)) | ((with_reducible show DE _ _ (Expr.Call (Expr.Name "str" _) _ _ _) _ _ _); refine de_cstr ?_ (by assumption)) | walk_at "down") | ((with_reducible show DE _ _ (Expr.BinOp _ _ _ _) _ _ _); refine de_op ?_) | ((with_reducible show DE _ _ (Expr.Compare _ [_] _ _) _ _ _); refine de_cmp ?_) | ((with_reducible show DE _ _ (Expr.Compare _ [_, _] _ _) _ _ _); refine de_chain ?_) | ((with_reducible show DE _ _ (Expr.Subscript _ (Expr.Slice _ _ _ _) _) _ _ _); refine de_slice ?_) | ((with_reducible show DE _ _ (Expr.Subscript _ _ _) _ _ _); refine de_ix ?_) | ((with_reducible show DE _ _ (Expr.BoolOp _ [_] _) _ _ _); refine de_one ?_) | ((with_reducible show DE _ _ (Expr.BoolOp BoolOp.And _ _) _ _ _); refine de_and ?_) | ((with_reducible show DE _ _ (Expr.BoolOp BoolOp.Or _ _) _ _ _); refine de_or ?_) | ((with_reducible show DE _ _ (Expr.UnaryOp UnaryOp.Not _ _) _ _ _); refine de_not ?_) | ((with_reducible show DE _ _ (Expr.UnaryOp _ _ _) _ _ _); refine de_un ?_) | ((with_reducible show DE _ _ (Expr.IfExp _ _ _ _) _ _ _); refine de_ifx ?_) | ((with_reducible show DE _ _ (Expr.Tuple _ _ _) _ _ _); refine de_tup ?_) | ((with_reducible show DE _ _ (Expr.List _ _) _ _ _); walk_at "dlst") | ((with_reducible show DE _ _ (Expr.Dict [] [] _) _ _ _); refine de_dict0 ?_) | walk_at "dhook")
    | ((with_reducible show DA _ _ _ _ _ _); first | ((with_reducible show DA _ _ [] _ _ _); refine da_nil ?_) | ((with_reducible show DA _ _ (_ :: _) _ _ _); refine da_cons ?_))
    | ((with_reducible show BoolR _ _); refine ⟨_, rfl, ?_⟩)
    | ((with_reducible show (_ = true → _) ∧ (_ = false → _)); (refine ⟨fun h => ?_, fun h => ?_⟩ <;> try (exact Bool.noConfusion h)))
    | ((with_reducible show OpD _ _ _ _ _ _ _); first | ((with_reducible show OpD _ _ (binaryOp Operator.Add) _ _ _ _); first | refine op_addI ?_ | refine op_addT ?_) | ((with_reducible show OpD _ _ (binaryOp Operator.Sub) _ _ _ _); refine op_subI ?_) | ((with_reducible show OpD _ _ (binaryOp Operator.Mod) _ _ _ _); refine op_modI (by first | decide | assumption) ?_) | ((with_reducible show OpD _ _ (binaryOp Operator.Mult) _ _ _ _); refine op_mulI (by first | exact .inr (by decide) | exact .inl (by decide) | (exact .inl (by omega))) ?_) | ((with_reducible show OpD _ _ (binaryOp Operator.Pow) _ _ _ _); refine op_powI (by decide) (by decide) (by decide) ?_) | ((with_reducible show OpD _ _ (binaryOp Operator.FloorDiv) _ _ _ _); refine op_fdivI (by decide) (by decide) ?_) | ((with_reducible show OpD _ _ (compareOp CmpOp.Lt) _ _ _ _); refine op_ltI ?_) | ((with_reducible show OpD _ _ (compareOp CmpOp.LtE) _ _ _ _); first | refine op_leI ?_ | refine op_leS ?_) | ((with_reducible show OpD _ _ (compareOp CmpOp.Gt) _ _ _ _); refine op_gtI ?_) | ((with_reducible show OpD _ _ (compareOp CmpOp.GtE) _ _ _ _); refine op_geI ?_) | ((with_reducible show OpD _ _ (compareOp CmpOp.Eq) _ _ _ _); first | refine op_eqI ?_ | refine op_eqS ?_) | ((with_reducible show OpD _ _ (compareOp CmpOp.NotEq) _ _ _ _); first | refine op_neI ?_ | refine op_neS ?_))
    | ((with_reducible show CaD _ _ _ _ _ _); first | ((with_reducible show CaD _ _ (Value.builtin "isinstance") [_, SV.ty "int"] _ _); refine ca_isi (by assumption) (kit_int _ (by assumption)) ?_) | ((with_reducible show CaD _ _ (Value.builtin "isinstance") [_, SV.ty "bool"] _ _); refine ca_isi (by assumption) (kit_bool _ (by assumption)) ?_) | ((with_reducible show CaD _ _ (Value.builtin "isinstance") [_, SV.ty "str"] _ _); refine ca_isi (by assumption) (kit_str _ (by assumption)) ?_) | ((with_reducible show CaD _ _ (Value.builtin "isinstance") [_, SV.ty "tuple"] _ _); refine ca_isi (by assumption) (kit_tuple _ (by assumption)) ?_) | ((with_reducible show CaD _ _ (Value.builtin "isinstance") [_, SV.ty "list"] _ _); refine ca_isi (by assumption) (kit_list _ (by assumption)) ?_) | ((with_reducible show CaD _ _ (Value.builtin "isinstance") [_, SV.ty "dict"] _ _); refine ca_isi (by assumption) (kit_dict _ (by assumption)) ?_) | ((with_reducible show CaD _ _ (Value.builtin "max") _ _ _); refine ca_max2 rfl ?_) | ((with_reducible show CaD _ _ (Value.builtin "min") _ _ _); refine ca_min2 rfl ?_) | ((with_reducible show CaD _ _ (Value.builtin "len") _ _ _); first | refine ca_lenT ?_ | refine ca_lenS (by assumption) ?_ | refine ca_lenSc ?_ | refine ca_lenL (.inl rfl) ?_) | ((with_reducible show CaD _ _ (Value.type "list") _ _ _); refine ca_listT ?_) | ((with_reducible show CaD _ _ (Value.builtin "divmod") _ _ _); refine ca_divmod (by assumption) (by omega) ?_) | walk_at "dca")
    | ((with_reducible show DT _ _ _ _ _ _); first | ((with_reducible show DT _ _ (Expr.BoolOp _ _ _) _ _ _); refine dt_w ?_) | ((with_reducible show DT _ _ (Expr.UnaryOp UnaryOp.Not _ _) _ _ _); refine dt_not ?_) | ((with_reducible show DT _ _ (Expr.Compare _ [_] _ _) _ _ _); refine dt_cmp ?_) | ((with_reducible show DT _ _ (Expr.Compare _ [_, _] _ _) _ _ _); refine dt_chain ?_) | refine dt_val ?_)
    | ((with_reducible show DW _ _ _ _ _ _); first | ((with_reducible show DW _ _ (Expr.BoolOp BoolOp.And [_] _) _ _ _); refine dw_and1 ?_) | ((with_reducible show DW _ _ (Expr.BoolOp BoolOp.Or [_] _) _ _ _); refine dw_or1 ?_) | ((with_reducible show DW _ _ (Expr.BoolOp BoolOp.And _ _) _ _ _); refine dw_and ?_) | ((with_reducible show DW _ _ (Expr.BoolOp BoolOp.Or _ _) _ _ _); refine dw_or ?_))
    | ((with_reducible show DSs _ _ _ _ _ _); first | ((with_reducible show DSs _ _ [] _ _ _); refine dss_nil ?_) | ((with_reducible show DSs _ _ [_] _ _ _); refine dss_one ?_) | ((with_reducible show DSs _ _ (_ :: _) _ _ _); refine dss_cons ?_))
    | ((with_reducible show DS _ _ _ _ _ _); first | ((with_reducible show DS _ _ (Stmt.Return (some _) _) _ _ _); refine ds_ret ?_) | ((with_reducible show DS _ _ (Stmt.If _ _ _ _) _ _ _); refine ds_if ?_) | ((with_reducible show DS _ _ (Stmt.Expr _ _) _ _ _); refine ds_expr ?_) | ((with_reducible show DS _ _ (Stmt.Assign [Expr.Name _ _] _ _) _ _ _); walk_at "dset"))
    | ((with_reducible show DP _ _ none _ _ _); refine dp_none ?_)
    | ((with_reducible show DP _ _ (some _) _ _ _); refine dp_some ?_)
    | ((with_reducible show ∃ d, SV.dat _ = SV.dat d ∧ Fi d ∧ _); refine ⟨_, rfl, by assumption, ?_⟩)
    | ((with_reducible show ∃ i, SV.dat (Dt.int _) = SV.dat (Dt.int i) ∧ _); refine ⟨_, rfl, ?_⟩)
    | ((with_reducible show SlD _ _ (SV.dat (Dt.tup _)) _ _ _ _); refine sl_dT ?_)
    | ((with_reducible show ∃ ds, undat _ = some ds ∧ ds.length ≤ 1000 ∧ _); refine ⟨_, rfl, Nat.le_of_ble_eq_true rfl, ?_⟩)
    | ((with_reducible show ∃ q, SV.at _ = SV.at q ∧ _); refine ⟨_, rfl, ?_⟩)
    | ((with_reducible show ∃ z, SV.dat (Dt.str _) = SV.dat (Dt.str z) ∧ _); refine ⟨_, rfl, ?_⟩)
    | ((with_reducible show IxD _ _ (SV.at _) (SV.dat (Dt.int 0)) _ _); refine ix_pot0 (by assumption) (fun _ _ => ?_))
    | ((with_reducible show IxD _ _ (SV.at _) (SV.dat (Dt.int 1)) _ _); refine ix_pot1 (by assumption) (fun _ _ _ => ?_))
    | ((with_reducible show UnD _ _ (unaryOp UnaryOp.USub) _ _ _); refine un_negI ?_)
    | ((with_reducible show Po.nx _ _ _); dsimp only)
    | ((with_reducible show Po.rt _ _ _); dsimp only))
local macro_rules
  | `(tactic| walk_at "drun") => `(tactic| repeat' (walk_at "dstep"))

def getP (o : Option Dt) : Dt := match o with | some w => w | none => .non
def triedP (o : Option Dt) : Dt := match o with | some w => .tup [.str "told", w] | none => .tup [.str "no", .non]
def spTold : Sp := PSp (ok1 Ww) (re1 fun d => getP (whoP d))
def spTried : Sp := PSp (ok1 Ww) (re1 fun d => triedP (whoP d))
def spIsRight : Sp := PSp (ok1 Ww) (re1 fun _ => .bl true)
theorem split_cons {l p : List Nat} {ps : List (List Nat)} (h : splD l = p :: ps) : (Txt.split (SX.S l) ".").map Dt.str = Dt.str (SX.S p) :: (ps.map SX.S).map Dt.str := by
  rw [split_eq, h, List.map_cons, List.map_map]
  rfl
theorem whoT_if (p : List Nat) (ps : List (List Nat)) : whoT (p :: ps) = if whoD (.tup (.str (SX.S p) :: ps.map numL)) = true then some (.tup (.str (SX.S p) :: ps.map numL)) else none := rfl
theorem Ww.obj {d : Dt} (h : Ww d) : isObj' d = false := by
  rcases h with ⟨l, rfl, _⟩ | ⟨_, h⟩
  · rfl
  · exact h
set_option hygiene false in
local macro_rules
  | `(tactic| walk_at "down") => `(tactic| first | ((with_reducible show DE _ _ (Expr.Call (Expr.Name "_law_is_label" _) _ _ _) _ _ _); refine de_p1 oLabel hr (by decide) hg ?_) | ((with_reducible show DE _ _ (Expr.Call (Expr.Name "who_of" _) _ _ _) _ _ _); refine de_ownX oWhoOf tk hr (by decide) hg ?_) | ((with_reducible show DE _ _ (Expr.Call (Expr.Name "_law_who_told" _) _ _ _) _ _ _); refine de_p1 oTold hr (by decide) hg ?_) | ((with_reducible show DE _ _ (Expr.Call (Expr.Name "_law_tried" _) _ _ _) _ _ _); refine de_p1 oTried hr (by decide) hg ?_))
set_option hygiene false in
local macro_rules
  | `(tactic| walk_at "dhook") => `(tactic| first | ((with_reducible show DE _ _ (Expr.Call (Expr.Attribute _ "split" _) [_] [] _) _ _ _); refine de_split ?_) | ((with_reducible show DE _ _ (Expr.Name "NoText" _) _ _ _); refine de_globC Er.gC ?_) | ((with_reducible show DE _ _ (Expr.Name "NoWeb" _) _ _ _); refine de_globC Er.gW ?_) | ((with_reducible show DE _ _ (Expr.Name "ValueError" _) _ _ _); refine de_tyv t17 (by decide +kernel) ?_))
set_option hygiene false in
local macro_rules
  | `(tactic| walk_at "dca") => `(tactic| ((with_reducible show CaD _ _ (Value.type "str") _ _ _); first | refine ca_strS ?_ | refine ca_strI (by assumption) ?_))
section
variable {P : Program} {w : World} {K : PySem.W.Frag} {mg : Str → Option Value} {base : Heap}
abbrev sTold : Stmt := top 23
abbrev nTold : List Str := ["_law_word", "_law_name", "_law_places", "_law_figures", "_law_k", "_law_place"]
theorem scTold : FnScope nTold ["_law_word"] (defScope sTold) := ⟨rfl, rfl, rfl, by decide +kernel, rfl, by decide +kernel, by decide +kernel⟩
theorem ok_told {f : Addr} {fd : FuncData} (F : Fun K "_law_who_told" "_law_who_told" sTold f fd) (T : Txt mg) (oLabel : Own P w K mg base "_law_is_label" 1 spName) : FnG P w K mg base 2 f fd ["_law_word"] spTold := by
  refine fn_pure F scTold (fun ds ⟨d, e, _⟩ => by rw [e]; rfl) fun cdv A outer s H hr hg w' ds μ ⟨d, e, hd⟩ => ?_
  subst e
  have ho := hd.obj
  obtain ⟨t1, t2, t3, t4, t5, t6, t7, t8, t9, t10, t11, t12, t13, t14, t15, t16, t17, t18⟩ := T
  have hN : nTold.Nodup := by decide +kernel
  refine dss_cons ?_
  rcases hd with ⟨l, rfl, hl⟩ | ⟨hs, _⟩
  · have hz : (SX.S l).length ≤ 640 := by rw [SX.S_len]; exact hl.1
    obtain ⟨p, ps, e2, hp, hps, hq⟩ := splD_as hl
    have eP : whoP (.str (SX.S l)) = whoT (p :: ps) := by rw [← e2]; rfl
    walk_at "drun"
    refine ds_par 1 2 rfl hN ?_
    walk_at "drun"
    refine ⟨rfl, small_ok (by omega), ?_⟩
    rw [split_cons e2]
    walk_at "drun"
    refine ix_dL (.inl rfl) (atI_head _ _) ?_
    walk_at "drun"
    refine ⟨rfl, small_ok (by omega), ?_⟩
    rw [split_cons e2]
    walk_at "drun"
    refine sl_dL (.inl rfl) ?_
    rw [cut_tail]
    walk_at "drun"
    refine ⟨_, _, rfl, ?_⟩
    walk_at "drun"
    refine ds_set 3 hN (de_lc 4 rfl hN (blkOk_by (N := nTold) (sc := defScope sTold) (by decide +kernel)) ?_)
    refine di_range1 ?_ t12
    walk_at "drun"
    refine ⟨12, rfl, by decide, by decide, ?_⟩
    refine lc_map (fun d => match d with | .int k => .str (Str.ofString (toString k)) | _ => .non) (by decide) ?_ ?_
    · intro d hd w2 k
      obtain ⟨m, hm, rfl⟩ := List.mem_map.mp hd
      have hm' := List.mem_range.mp hm
      have hi : ((0 : Int) + (m : Int)).natAbs.log2 < 1920 := log_small (by omega) (by have : m < 12 := hm'; omega)
      walk_at "drun"
      exact ⟨rfl, rfl⟩
    have ef : (upto 0 (Int.toNat 12)).map (fun d => match d with | .int k => Dt.str (Str.ofString (toString k)) | _ => .non) = (figL.map SX.S).map Dt.str := by
      unfold upto figL
      rw [List.map_map, List.map_map, List.map_map]
      refine List.map_congr_left fun k hk => ?_
      show Dt.str (Str.ofString (toString ((0 : Int) + (k : Int)))) = Dt.str (SX.S (TL.numL k))
      rw [Int.zero_add, SX.num_S]
    rw [ef]
    have hfp : Fi (.str (SX.S p)) := ⟨0, by rw [SX.S_len]; have := hp.1; omega, fun c hc => by have := hp.2 c hc; omega⟩
    walk_at "drun"
    · rename_i h1 h2 h3
      have h2' : nameD (.str (SX.S p)) = false := by simpa using h2
      refine ⟨_, rfl, ⟨_, rfl, ?_⟩, Mus.Sub.refl _⟩
      show Dt.non = getP (whoP _)
      rw [eP, whoT_if, if_neg (by simp [whoD, h2'])]
      rfl
    · rename_i h1 h2
      have h2' : nameD (.str (SX.S p)) = true := by simpa using h2
      refine de_lc 5 rfl hN (blkOk_by (N := nTold) (sc := defScope sTold) (by decide +kernel)) ?_
      refine di_lst ?_
      walk_at "drun"
      refine ⟨_, rfl, lc_map (fun d => match d with | .str z => .bl (inD 0 11 (numL z.cps.toList)) | _ => .bl false) (by simp; omega) ?_ ?_⟩
      · intro d hd w2 k
        obtain ⟨z, hz2, rfl⟩ := List.mem_map.mp hd
        obtain ⟨q, hqm, rfl⟩ := List.mem_map.mp hz2
        walk_at "drun"
        refine op_inL (.inl rfl) ?_
        have e4 : decide (SX.S q ∈ figL.map SX.S) = inD 0 11 (numL q) := by
          rw [← fig_iff, Bool.eq_iff_iff, decide_eq_true_eq, decide_eq_true_eq, List.mem_map]
          exact ⟨fun ⟨a, h1, h2⟩ => by rw [← SX.S_inj h2]; exact h1, fun h => ⟨q, h, rfl⟩⟩
        rw [e4]
        exact ⟨rfl, rfl⟩
      walk_at "drun"
      refine ca_all rfl (bs := ps.map fun q => inD 0 11 (numL q)) (.inl (by rw [List.map_map, List.map_map, List.map_map]; rfl)) ?_
      have e5 : (ps.map fun q => inD 0 11 (numL q)).all id = (ps.map numL).all (inD 0 11) := by
        rw [List.all_map, List.all_map]
        rfl
      rw [e5]
      walk_at "drun"
      · rename_i h3
        have h3' : (ps.map numL).all (inD 0 11) = false := by simpa using h3
        refine ⟨_, rfl, ⟨_, rfl, ?_⟩, Mus.Sub.refl _⟩
        show Dt.non = getP (whoP _)
        rw [eP, whoT_if, if_neg (by show ¬ ((nameD _ && (ps.map numL).all (inD 0 11)) = true); rw [h3', Bool.and_false]; decide)]
        rfl
      · rename_i h3
        have h3' : (ps.map numL).all (inD 0 11) = true := by simpa using h3
        refine de_lc 5 rfl hN (blkOk_by (N := nTold) (sc := defScope sTold) (by decide +kernel)) ?_
        refine di_lst ?_
        walk_at "drun"
        refine ⟨_, rfl, lc_map (fun d => match d with | .str z => numL z.cps.toList | _ => .non) (by simp; omega) ?_ ?_⟩
        · intro d hd w2 k
          obtain ⟨z, hz2, rfl⟩ := List.mem_map.mp hd
          obtain ⟨q, hqm, rfl⟩ := List.mem_map.mp hz2
          have h4 := List.all_eq_true.mp h3' _ (List.mem_map.mpr ⟨q, hqm, rfl⟩)
          cases e6 : numL q with
          | int n =>
            walk_at "drun"
            refine ca_intS (numL_text e6) (by rw [SX.S_len]; have := (hq q hqm).1; omega) ?_
            exact ⟨congrArg SV.dat e6.symm, rfl⟩
          | _ => rw [e6] at h4; simp [inD] at h4
        have em : ((ps.map SX.S).map Dt.str).map (fun d => match d with | .str z => numL z.cps.toList | _ => Dt.non) = ps.map numL := by
          rw [List.map_map, List.map_map]
          rfl
        rw [em]
        refine op_addL (.inl rfl) (.inl rfl) (small_ok (by simp; omega)) ?_
        walk_at "drun"
        refine ca_tupL (.inl rfl) ?_
        refine ⟨_, rfl, ⟨_, rfl, ?_⟩, Mus.Sub.refl _⟩
        show _ = getP (whoP _)
        rw [eP, whoT_if, if_pos (by show (nameD _ && (ps.map numL).all (inD 0 11)) = true; rw [h2', h3']; rfl)]
        rfl
  · have hs' : (!isStr d) = true := by simpa using hs
    walk_at "drun"
    · exact ⟨_, rfl, ⟨d, rfl, by show Dt.non = getP (whoP d); rw [whoP_not hs]; rfl⟩, Mus.Sub.refl _⟩
    all_goals rename_i h
    all_goals rw [hs'] at h
    all_goals cases h
end
end K18

set_option Elab.async false
set_option linter.all false
set_option maxRecDepth 100000
set_option maxHeartbeats 1000000
namespace K18
open PySem PySem.Spec PyProof.Rows L2 Dat
local macro_rules
  | `(tactic| walk_at "down") => `(tactic| fail "none")
local macro_rules
  | `(tactic| walk_at "dset") => `(tactic| fail "none")
local macro_rules
  | `(tactic| walk_at "dhook") => `(tactic| fail "none")
local macro_rules
  | `(tactic| walk_at "dca") => `(tactic| fail "none")
local macro_rules
  | `(tactic| walk_at "dlst") => `(tactic| refine de_lst ?_)
local macro_rules
  | `(tactic| walk_at "dstep") => `(tactic| first
    | ((with_reducible show DE _ _ _ _ _ _); first | ((with_reducible show DE _ _ (Expr.Name _ _) _ _ _); first | ((with_reducible show DE _ _ (Expr.Name "int" _) _ _ _); refine de_ty_int (by assumption) ?_) | ((with_reducible show DE _ _ (Expr.Name "str" _) _ _ _); refine de_ty_str (by assumption) ?_) | ((with_reducible show DE _ _ (Expr.Name "bool" _) _ _ _); refine de_ty_bool (by assumption) ?_) | ((with_reducible show DE _ _ (Expr.Name "tuple" _) _ _ _); refine de_ty_tuple (by assumption) ?_) | ((with_reducible show DE _ _ (Expr.Name "list" _) _ _ _); refine de_ty_list (by assumption) ?_) | ((with_reducible show DE _ _ (Expr.Name "dict" _) _ _ _); refine de_ty_dict (by assumption) ?_) | refine de_nm rfl ?_ | refine de_globI (by assumption) ?_) | ((with_reducible show DE _ _ (Expr.Constant _ _ _) _ _ _); first | refine de_int ?_ | refine de_str ?_ | refine de_bl ?_ | refine de_non ?_) | ((with_reducible show DE _ _ (Expr.Call (Expr.Name _ _) _ _ _) _ _ _); first | ((with_reducible show DE _ _ (Expr.Call (Expr.Name "isinstance" _) _ _ _) _ _ _); refine de_isinstance ?_ (by assumption)) | ((with_reducible show DE _ _ (Expr.Call (Expr.Name "len" _) _ _ _) _ _ _); refine de_len ?_ (by assumption)) | ((with_reducible show DE _ _ (Expr.Call (Expr.Name "max" _) _ _ _) _ _ _); refine de_max ?_ (by assumption)) | ((with_reducible show DE _ _ (Expr.Call (Expr.Name "min" _) _ _ _) _ _ _); refine de_min ?_ (by assumption)) | ((with_reducible show DE _ _ (Expr.Call (Expr.Name "all" _) _ _ _) _ _ _); refine de_all ?_ (by assumption)) | ((with_reducible show DE _ _ (Expr.Call (Expr.Name "repr" _) _ _ _) _ _ _); refine de_repr ?_ (by assumption)) | ((with_reducible show DE _ _ (Expr.Call (Expr.Name "divmod" _) _ _ _) _ _ _); refine de_divmod ?_ (by assumption)) | ((with_reducible show DE _ _ (Expr.Call (Expr.Name "list" _) _ _ _) _ _ _); refine de_clist ?_ (by assumption)) | ((with_reducible show DE _ _ (Expr.Call (Expr.Name "tuple" _) _ _ _) _ _ _); refine de_ctuple ?_ (by assumption)) | ((with_reducible show DE _ _ (Expr.Call (Expr.Name "int" _) _ _ _) _ _ _); refine de_cint ?_ (by assumption)) | ((with_reducible show DE _ _ (Expr.Call (Expr.Name "str" _) _ _ _) _ _ _); refine de_cstr ?_ (by assumption)) | walk_at "down") | ((with_reducible show DE _ _ (Expr.BinOp _ _ _ _) _ _ _); refine de_op ?_) | ((with_reducible show DE _ _ (Expr.Compare _ [_] _ _) _ _ _); refine de_cmp ?_) | ((with_reducible show DE _ _ (Expr.Compare _ [_, _] _ _) _ _ _); refine de_chain ?_) | ((with_reducible show DE _ _ (Expr.Subscript _ (Expr.Slice _ _ _ _) _) _ _ _); refine de_slice ?_) | ((with_reducible show DE _ _ (Expr.Subscript _ _ _) _ _ _); refine de_ix ?_) | ((with_reducible show DE _ _ (Expr.BoolOp _ [_] _) _ _ _); refine de_one ?_) | ((with_reducible show DE _ _ (Expr.BoolOp BoolOp.And _ _) _ _ _); refine de_and ?_) | ((with_reducible show DE _ _ (Expr.BoolOp BoolOp.Or _ _) _ _ _); refine de_or ?_) | ((with_reducible show DE _ _ (Expr.UnaryOp UnaryOp.Not _ _) _ _ _); refine de_not ?_) | ((with_reducible show DE _ _ (Expr.UnaryOp _ _ _) _ _ _); refine de_un ?_) | ((with_reducible show DE _ _ (Expr.IfExp _ _ _ _) _ _ _); refine de_ifx ?_) | ((with_reducible show DE _ _ (Expr.Tuple _ _ _) _ _ _); refine de_tup ?_) | ((with_reducible show DE _ _ (Expr.List _ _) _ _ _); walk_at "dlst") | ((with_reducible show DE _ _ (Expr.Dict [] [] _) _ _ _); refine de_dict0 ?_) | walk_at "dhook")
    | ((with_reducible show DA _ _ _ _ _ _); first | ((with_reducible show DA _ _ [] _ _ _); refine da_nil ?_) | ((with_reducible show DA _ _ (_ :: _) _ _ _); refine da_cons ?_))
    | ((with_reducible show BoolR _ _); refine ⟨_, rfl, ?_⟩)
    | ((with_reducible show (_ = true → _) ∧ (_ = false → _)); (refine ⟨fun h => ?_, fun h => ?_⟩ <;> try (exact Bool.noConfusion h)))
    | ((with_reducible show OpD _ _ _ _ _ _ _); first | ((with_reducible show OpD _ _ (binaryOp Operator.Add) _ _ _ _); first | refine op_addI ?_ | refine op_addT ?_) | ((with_reducible show OpD _ _ (binaryOp Operator.Sub) _ _ _ _); refine op_subI ?_) | ((with_reducible show OpD _ _ (binaryOp Operator.Mod) _ _ _ _); refine op_modI (by first | decide | assumption) ?_) | ((with_reducible show OpD _ _ (binaryOp Operator.Mult) _ _ _ _); refine op_mulI (by first | exact .inr (by decide) | exact .inl (by decide) | (exact .inl (by omega))) ?_) | ((with_reducible show OpD _ _ (binaryOp Operator.Pow) _ _ _ _); refine op_powI (by decide) (by decide) (by decide) ?_) | ((with_reducible show OpD _ _ (binaryOp Operator.FloorDiv) _ _ _ _); refine op_fdivI (by decide) (by decide) ?_) | ((with_reducible show OpD _ _ (compareOp CmpOp.Lt) _ _ _ _); refine op_ltI ?_) | ((with_reducible show OpD _ _ (compareOp CmpOp.LtE) _ _ _ _); first | refine op_leI ?_ | refine op_leS ?_) | ((with_reducible show OpD _ _ (compareOp CmpOp.Gt) _ _ _ _); refine op_gtI ?_) | ((with_reducible show OpD _ _ (compareOp CmpOp.GtE) _ _ _ _); refine op_geI ?_) | ((with_reducible show OpD _ _ (compareOp CmpOp.Eq) _ _ _ _); first | refine op_eqI ?_ | refine op_eqS ?_) | ((with_reducible show OpD _ _ (compareOp CmpOp.NotEq) _ _ _ _); first | refine op_neI ?_ | refine op_neS ?_))
    | ((with_reducible show CaD _ _ _ _ _ _); first | ((with_reducible show CaD _ _ (Value.builtin "isinstance") [_, SV.ty "int"] _ _); refine ca_isi (by assumption) (kit_int _ (by assumption)) ?_) | ((with_reducible show CaD _ _ (Value.builtin "isinstance") [_, SV.ty "bool"] _ _); refine ca_isi (by assumption) (kit_bool _ (by assumption)) ?_) | ((with_reducible show CaD _ _ (Value.builtin "isinstance") [_, SV.ty "str"] _ _); refine ca_isi (by assumption) (kit_str _ (by assumption)) ?_) | ((with_reducible show CaD _ _ (Value.builtin "isinstance") [_, SV.ty "tuple"] _ _); refine ca_isi (by assumption) (kit_tuple _ (by assumption)) ?_) | ((with_reducible show CaD _ _ (Value.builtin "isinstance") [_, SV.ty "list"] _ _); refine ca_isi (by assumption) (kit_list _ (by assumption)) ?_) | ((with_reducible show CaD _ _ (Value.builtin "isinstance") [_, SV.ty "dict"] _ _); refine ca_isi (by assumption) (kit_dict _ (by assumption)) ?_) | ((with_reducible show CaD _ _ (Value.builtin "max") _ _ _); refine ca_max2 rfl ?_) | ((with_reducible show CaD _ _ (Value.builtin "min") _ _ _); refine ca_min2 rfl ?_) | ((with_reducible show CaD _ _ (Value.builtin "len") _ _ _); first | refine ca_lenT ?_ | refine ca_lenS (by assumption) ?_ | refine ca_lenSc ?_ | refine ca_lenL (.inl rfl) ?_) | ((with_reducible show CaD _ _ (Value.type "list") _ _ _); refine ca_listT ?_) | ((with_reducible show CaD _ _ (Value.builtin "divmod") _ _ _); refine ca_divmod (by assumption) (by omega) ?_) | walk_at "dca")
    | ((with_reducible show DT _ _ _ _ _ _); first | ((with_reducible show DT _ _ (Expr.BoolOp _ _ _) _ _ _); refine dt_w ?_) | ((with_reducible show DT _ _ (Expr.UnaryOp UnaryOp.Not _ _) _ _ _); refine dt_not ?_) | ((with_reducible show DT _ _ (Expr.Compare _ [_] _ _) _ _ _); refine dt_cmp ?_) | ((with_reducible show DT _ _ (Expr.Compare _ [_, _] _ _) _ _ _); refine dt_chain ?_) | refine dt_val ?_)
    | ((with_reducible show DW _ _ _ _ _ _); first | ((with_reducible show DW _ _ (Expr.BoolOp BoolOp.And [_] _) _ _ _); refine dw_and1 ?_) | ((with_reducible show DW _ _ (Expr.BoolOp BoolOp.Or [_] _) _ _ _); refine dw_or1 ?_) | ((with_reducible show DW _ _ (Expr.BoolOp BoolOp.And _ _) _ _ _); refine dw_and ?_) | ((with_reducible show DW _ _ (Expr.BoolOp BoolOp.Or _ _) _ _ _); refine dw_or ?_))
    | ((with_reducible show DSs _ _ _ _ _ _); first | ((with_reducible show DSs _ _ [] _ _ _); refine dss_nil ?_) | ((with_reducible show DSs _ _ [_] _ _ _); refine dss_one ?_) | ((with_reducible show DSs _ _ (_ :: _) _ _ _); refine dss_cons ?_))
    | ((with_reducible show DS _ _ _ _ _ _); first | ((with_reducible show DS _ _ (Stmt.Return (some _) _) _ _ _); refine ds_ret ?_) | ((with_reducible show DS _ _ (Stmt.If _ _ _ _) _ _ _); refine ds_if ?_) | ((with_reducible show DS _ _ (Stmt.Expr _ _) _ _ _); refine ds_expr ?_) | ((with_reducible show DS _ _ (Stmt.Assign [Expr.Name _ _] _ _) _ _ _); walk_at "dset"))
    | ((with_reducible show DP _ _ none _ _ _); refine dp_none ?_)
    | ((with_reducible show DP _ _ (some _) _ _ _); refine dp_some ?_)
    | ((with_reducible show ∃ d, SV.dat _ = SV.dat d ∧ Fi d ∧ _); refine ⟨_, rfl, by assumption, ?_⟩)
    | ((with_reducible show ∃ i, SV.dat (Dt.int _) = SV.dat (Dt.int i) ∧ _); refine ⟨_, rfl, ?_⟩)
    | ((with_reducible show SlD _ _ (SV.dat (Dt.tup _)) _ _ _ _); refine sl_dT ?_)
    | ((with_reducible show ∃ ds, undat _ = some ds ∧ ds.length ≤ 1000 ∧ _); refine ⟨_, rfl, Nat.le_of_ble_eq_true rfl, ?_⟩)
    | ((with_reducible show ∃ q, SV.at _ = SV.at q ∧ _); refine ⟨_, rfl, ?_⟩)
    | ((with_reducible show ∃ z, SV.dat (Dt.str _) = SV.dat (Dt.str z) ∧ _); refine ⟨_, rfl, ?_⟩)
    | ((with_reducible show IxD _ _ (SV.at _) (SV.dat (Dt.int 0)) _ _); refine ix_pot0 (by assumption) (fun _ _ => ?_))
    | ((with_reducible show IxD _ _ (SV.at _) (SV.dat (Dt.int 1)) _ _); refine ix_pot1 (by assumption) (fun _ _ _ => ?_))
    | ((with_reducible show UnD _ _ (unaryOp UnaryOp.USub) _ _ _); refine un_negI ?_)
    | ((with_reducible show Po.nx _ _ _); dsimp only)
    | ((with_reducible show Po.rt _ _ _); dsimp only))
local macro_rules
  | `(tactic| walk_at "drun") => `(tactic| repeat' (walk_at "dstep"))

set_option hygiene false in
local macro_rules
  | `(tactic| walk_at "down") => `(tactic| first | ((with_reducible show DE _ _ (Expr.Call (Expr.Name "_law_is_label" _) _ _ _) _ _ _); refine de_p1 oLabel hr (by decide) hg ?_) | ((with_reducible show DE _ _ (Expr.Call (Expr.Name "who_of" _) _ _ _) _ _ _); refine de_ownX oWhoOf tk hr (by decide) hg ?_) | ((with_reducible show DE _ _ (Expr.Call (Expr.Name "_law_who_told" _) _ _ _) _ _ _); refine de_p1 oTold hr (by decide) hg ?_) | ((with_reducible show DE _ _ (Expr.Call (Expr.Name "_law_tried" _) _ _ _) _ _ _); refine de_p1 oTried hr (by decide) hg ?_))
set_option hygiene false in
local macro_rules
  | `(tactic| walk_at "dhook") => `(tactic| first | ((with_reducible show DE _ _ (Expr.Call (Expr.Attribute _ "split" _) [_] [] _) _ _ _); refine de_split ?_) | ((with_reducible show DE _ _ (Expr.Name "NoText" _) _ _ _); refine de_globC Er.gC ?_) | ((with_reducible show DE _ _ (Expr.Name "NoWeb" _) _ _ _); refine de_globC Er.gW ?_) | ((with_reducible show DE _ _ (Expr.Name "ValueError" _) _ _ _); refine de_tyv (T := "ValueError") t17 (by decide +kernel) ?_))
set_option hygiene false in
local macro_rules
  | `(tactic| walk_at "dca") => `(tactic| ((with_reducible show CaD _ _ (Value.type "str") _ _ _); first | refine ca_strS ?_ | refine ca_strI (by assumption) ?_))
section
variable {P : Program} {w : World} {K : PySem.W.Frag} {mg : Str → Option Value} {base : Heap}
abbrev sTried : Stmt := top 24
abbrev nTried : List Str := ["_law_word", "_law_told", "e"]
theorem scTried : FnScope nTried ["_law_word"] (defScope sTried) := ⟨rfl, rfl, rfl, by decide +kernel, rfl, by decide +kernel, by decide +kernel⟩
theorem ok_tried {f FE W C : Addr} {fd : FuncData} (F : Fun K "_law_tried" "_law_tried" sTried f fd) (T : Txt mg) (Er : Err K mg FE W C) (oWhoOf : OwnX P w K mg base "who_of" 4 ["text"] (spWhoOf C)) : FnG P w K mg base 5 f fd ["_law_word"] spTried := by
  refine fn_pure F scTried (fun ds ⟨d, e, _⟩ => by rw [e]; rfl) fun cdv A outer s H hr hg w' ds μ ⟨d, e, hd⟩ => ?_
  subst e
  have ho := hd.obj
  obtain ⟨t1, t2, t3, t4, t5, t6, t7, t8, t9, t10, t11, t12, t13, t14, t15, t16, t17, t18⟩ := T
  have hN : nTried.Nodup := by decide +kernel
  refine dss_cons (ds_set 1 hN ?_)
  walk_at "drun"
  refine ds_try 2 (fun μ' => μ' = μ ∧ whoP d = none) hN ⟨rfl, by decide, .inl Er.gF⟩ Er.e (fun w2 WW pn xe tk hW => ?_) (fun a oe pn μ' hz hf ⟨hμ, hx⟩ => ?_)
  · refine dss_one (ds_set 1 hN ?_)
    walk_at "drun"
    refine ⟨⟨d, rfl, hd⟩, ?_, ?_⟩
    · rintro r μ2 ⟨d', v, e, hv, rfl, rfl⟩
      cases e
      walk_at "drun"
      refine ⟨_, rfl, ⟨d, rfl, ?_⟩, Mus.Sub.refl _⟩
      show _ = triedP (whoP d)
      rw [hv]
      rfl
    · rintro ⟨d', e, hx⟩ σ B H S I
      cases e
      exact hW σ B H μ S I ⟨rfl, hx⟩
  · subst hμ
    refine dss_one ?_
    walk_at "drun"
    refine ca_isE Er.c hz hf rfl (.inr ⟨_, rfl, rfl⟩) Er.iC ?_
    walk_at "drun"

    refine ca_isE (cv := .type "ValueError") (b := true) Er.c hz hf rfl (.inl ⟨_, rfl, rfl⟩) (by exact Er.iV) ?_
    walk_at "drun"
    refine ca_isE Er.c hz hf rfl (.inr ⟨_, rfl, rfl⟩) Er.iW ?_
    walk_at "drun"
    refine ds_set 1 hN ?_
    walk_at "drun"
    refine ⟨_, rfl, ⟨d, rfl, ?_⟩, Mus.Sub.refl _⟩
    show _ = triedP (whoP d)
    rw [hx]
    rfl
end
/-! ### told twice the same -/
theorem op_neSame {X : Cx} {w : Wd} {μ : Mus} {R : SV → Mus → Prop} {x : Str} (h : R (.dat (.bl false)) μ) : OpD X w (compareOp .NotEq) (.dat (.str x)) (.dat (.str x)) μ R := op_neS (by rw [decide_eq_true rfl]; exact h)
theorem who_in {d w : Dt} (h : whoP d = some w) : whoD w = true ∧ ∃ p ps, w = .tup (.str (SX.S p) :: ps.map numL) ∧ ∃ l, d = .str (SX.S l) ∧ splD l = p :: ps := by
  cases d with
  | str x =>
    have e : x = SX.S x.cps.toList := (SX.S_tl x).symm
    have h' : whoT (splD x.cps.toList) = some w := h
    cases e2 : splD x.cps.toList with
    | nil => rw [e2] at h'; cases h'
    | cons p ps =>
      rw [e2, whoT_if] at h'
      split at h'
      · rename_i h3
        cases h'
        exact ⟨h3, p, ps, rfl, _, by rw [← e], e2⟩
      · cases h'
  | _ => cases h
/-- a WHO that is well told -/
def Wt (n : Nat) (w : Dt) : Prop := ∃ (l : List Nat) (ns : List Int), w = .tup (.str (SX.S l) :: ns.map .int) ∧ l.length ≤ 8 ∧ (∀ c, c ∈ l → 97 ≤ c ∧ c ≤ 122) ∧ ns.length ≤ n ∧ ∀ y, y ∈ ns → 0 ≤ y ∧ y ≤ 11
theorem ins_of : ∀ ds : List Dt, ds.all (inD 0 11) = true → ∃ ns : List Int, ds = ns.map .int ∧ ∀ y, y ∈ ns → 0 ≤ y ∧ y ≤ 11
  | [], _ => ⟨[], rfl, nofun⟩
  | d :: ds, h => by
    rw [List.all_cons, Bool.and_eq_true] at h
    obtain ⟨ns, rfl, h2⟩ := ins_of ds h.2
    cases d with
    | int n =>
      have h1 := h.1
      simp [inD] at h1
      refine ⟨n :: ns, rfl, fun y hy => ?_⟩
      rcases List.mem_cons.mp hy with rfl | g
      · exact h1
      · exact h2 y g
    | _ => simp [inD] at h
theorem wt_of {n : Nat} {l p : List Nat} {ps : List (List Nat)} (hl : As n l) (e : splD l = p :: ps) (h : whoD (.tup (.str (SX.S p) :: ps.map numL)) = true) : Wt n (.tup (.str (SX.S p) :: ps.map numL)) := by
  have h' : (nameD (.str (SX.S p)) && (ps.map numL).all (inD 0 11)) = true := h
  rw [Bool.and_eq_true] at h'
  obtain ⟨ns, e2, h2⟩ := ins_of _ h'.2
  have h1 := h'.1
  simp only [nameD, Bool.and_eq_true, decide_eq_true_eq, SX.S_len] at h1
  obtain ⟨p', ps', e3, _, hps, _⟩ := splD_as hl
  rw [e] at e3
  cases e3
  refine ⟨p, ns, by rw [e2], h1.1.2, fun c hc => ?_, ?_, h2⟩
  · have := List.all_eq_true.mp h1.2 c hc
    unfold low at this
    rw [Bool.and_eq_true, decide_eq_true_eq, decide_eq_true_eq] at this
    exact this
  · have := congrArg List.length e2
    rw [List.length_map, List.length_map] at this
    omega
theorem Wt.fine {n : Nat} {w : Dt} (h : Wt n w) (hn : n ≤ 900) : fine 1000 1000 1 w ∧ hasDic w = false ∧ (toPy w).shown.length ≤ 36003 := by
  obtain ⟨l, ns, rfl, h1, h2, h3, h4⟩ := h
  refine ⟨⟨by simp; omega, fun d hd => ?_⟩, ?_, ?_⟩
  · rcases List.mem_cons.mp hd with rfl | g
    · exact fine_str 0 ⟨by rw [SX.S_len]; omega, fun c hc => by have := h2 c hc; omega⟩
    · obtain ⟨y, hy, rfl⟩ := List.mem_map.mp g
      have := h4 y hy
      exact fine_int 0 (by omega)
  · have : ∀ ns : List Int, hasDicA (ns.map .int) = false := fun ns => by
      induction ns with
      | nil => simp [hasDicA]
      | cons n ns ih => simp [hasDicA, hasDic, ih]
    simp [hasDic, hasDicA, this]
  · have q := tup_len (ds := .str (SX.S l) :: ns.map .int) (L := 34) fun d hd => by
      rcases List.mem_cons.mp hd with rfl | g
      · have := str_len (x := SX.S l) fun c hc => by have := h2 c hc; omega
        have e8 := SX.S_len l
        omega
      · obtain ⟨y, hy, rfl⟩ := List.mem_map.mp g
        have h5 := h4 y hy
        have := int_shown (i := y) (by omega)
        omega
    rw [List.length_cons, List.length_map] at q
    have : (ns.length + 1) * (34 + 2) ≤ 1000 * 36 := Nat.mul_le_mul_right _ (by omega)
    omega
theorem two_shown {w : Dt} {A : Str} (h8 : A.length ≤ 8) (hc : ∀ c ∈ A.cps.toList, c < 256) (hw : fine 1000 1000 1 w ∧ hasDic w = false ∧ (toPy w).shown.length ≤ 36003) : Shown (.tup [.str A, w]) := by
  have mem : ∀ d, d ∈ [Dt.str A, w] → d = .str A ∨ d = w := fun d hd => by
    simpa only [List.mem_cons, List.not_mem_nil, or_false] using hd
  have f : fine 1000 1000 2 (.tup [.str A, w]) := by
    rw [fine]
    refine ⟨by simp, fun d hd => ?_⟩
    rcases mem d hd with rfl | rfl
    · exact fine_str 1 ⟨by omega, hc⟩
    · exact hw.1
  have q := tup_len (ds := [.str A, w]) (L := 36003) fun d hd => by
    rcases mem d hd with rfl | rfl
    · have := str_len hc
      omega
    · exact hw.2.2
  have e : [Dt.str A, w].length = 2 := rfl
  rw [e] at q
  exact shown_of f (by omega) (by decide) (by simp [hasDic, hasDicA, hw.2.1])
theorem tried_shown {d : Dt} (hd : Ww d) : Shown (triedP (whoP d)) := by
  cases e : whoP d with
  | none => exact two_shown (A := "no") (by decide) (by decide) ⟨fine_non 1, rfl, by decide +kernel⟩
  | some w =>
    obtain ⟨h1, p, ps, rfl, l, rfl, h2⟩ := who_in e
    have hl : As 640 l := by
      rcases hd with ⟨l', e', hl⟩ | ⟨h, _⟩
      · injection e' with e'
        rw [SX.S_inj e']
        exact hl
      · cases h
    exact two_shown (A := "told") (by decide) (by decide) ((wt_of hl h2 h1).fine (by decide))
abbrev sIsRight : Stmt := top 26
abbrev nIsRight : List Str := ["_law_word", "_law_due", "_law_turn"]
section
variable {P : Program} {w : World} {K : PySem.W.Frag} {mg : Str → Option Value} {base : Heap}
theorem scIsRight : FnScope nIsRight ["_law_word"] (defScope sIsRight) := ⟨rfl, rfl, rfl, by decide +kernel, rfl, by decide +kernel, by decide +kernel⟩
theorem ok_isright {f : Addr} {fd : FuncData} (F : Fun K "_law_is_right" "_law_is_right" sIsRight f fd) (T : Txt mg) (oTold : Own P w K mg base "_law_who_told" 2 spTold) (oTried : Own P w K mg base "_law_tried" 5 spTried) : FnG P w K mg base 6 f fd ["_law_word"] spIsRight := by
  refine fn_pure F scIsRight (fun ds ⟨d, e, _⟩ => by rw [e]; rfl) fun cdv A outer s H hr hg w' ds μ ⟨d, e, hd⟩ => ?_
  subst e
  have ho := hd.obj
  obtain ⟨t1, t2, t3, t4, t5, t6, t7, t8, t9, t10, t11, t12, t13, t14, t15, t16, t17, t18⟩ := T
  have hN : nIsRight.Nodup := by decide +kernel
  refine dss_cons (ds_set 1 hN ?_)
  walk_at "drun"
  refine ⟨_, rfl, hd, ?_⟩
  walk_at "drun"
  refine ds_for (di_range1 ?_ t12) PassesOwn.never rfl
  walk_at "drun"
  refine ⟨2, rfl, by decide, by decide, fun n ρ' μ' => μ' = μ ∧ ∃ a : SV, ρ' = [.dat d, .dat (getP (whoP d)), a], ⟨rfl, .no, rfl⟩, ?_, ?_⟩
  · rintro n d' ρ' μ' hi ⟨rfl, a, rfl⟩
    refine dg_name 2 hN ?_
    refine dss_one ?_
    walk_at "drun"
    refine ⟨_, rfl, hd, ?_⟩
    walk_at "drun"
    refine ca_repr hr hg (tried_shown hd) ?_
    have hsh := tried_shown hd
    cases e : whoP d with
    | none =>
      rw [e] at hsh
      walk_at "drun"
      refine op_isD ?_
      walk_at "drun"
      refine ca_repr hr hg hsh ?_
      refine op_neSame ?_
      walk_at "drun"
      exact ⟨rfl, _, rfl⟩
    | some v =>
      rw [e] at hsh
      obtain ⟨h1, p, ps, rfl, l, rfl, h2⟩ := who_in e
      walk_at "drun"
      refine op_isD ?_
      walk_at "drun"
      refine ca_repr hr hg hsh ?_
      refine op_neSame ?_
      walk_at "drun"
      exact ⟨rfl, _, rfl⟩
  · rintro ρ' μ' ⟨rfl, a, rfl⟩
    walk_at "drun"
    exact ⟨_, rfl, ⟨d, rfl, rfl⟩, Mus.Sub.refl _⟩
end
end K18

set_option Elab.async false
set_option linter.all false
set_option maxRecDepth 100000
set_option maxHeartbeats 1000000
namespace K18
open PySem PySem.Spec PyProof.Rows L2 Dat
local macro_rules
  | `(tactic| walk_at "down") => `(tactic| fail "none")
local macro_rules
  | `(tactic| walk_at "dset") => `(tactic| fail "none")
local macro_rules
  | `(tactic| walk_at "dhook") => `(tactic| fail "none")
local macro_rules
  | `(tactic| walk_at "dca") => `(tactic| fail "none")
local macro_rules
  | `(tactic| walk_at "dlst") => `(tactic| refine de_lst ?_)
local macro_rules
  | `(tactic| walk_at "dstep") => `(tactic| first
    | ((with_reducible show DE _ _ _ _ _ _); first | ((with_reducible show DE _ _ (Expr.Name _ _) _ _ _); first | ((with_reducible show DE _ _ (Expr.Name "int" _) _ _ _); refine de_ty_int (by assumption) ?_) | ((with_reducible show DE _ _ (Expr.Name "str" _) _ _ _); refine de_ty_str (by assumption) ?_) | ((with_reducible show DE _ _ (Expr.Name "bool" _) _ _ _); refine de_ty_bool (by assumption) ?_) | ((with_reducible show DE _ _ (Expr.Name "tuple" _) _ _ _); refine de_ty_tuple (by assumption) ?_) | ((with_reducible show DE _ _ (Expr.Name "list" _) _ _ _); refine de_ty_list (by assumption) ?_) | ((with_reducible show DE _ _ (Expr.Name "dict" _) _ _ _); refine de_ty_dict (by assumption) ?_) | refine de_nm rfl ?_ | refine de_globI (by assumption) ?_) | ((with_reducible show DE _ _ (Expr.Constant _ _ _) _ _ _); first | refine de_int ?_ | refine de_str ?_ | refine de_bl ?_ | refine de_non ?_) | ((with_reducible show DE _ _ (Expr.Call (Expr.Name _ _) _ _ _) _ _ _); first | ((with_reducible show DE _ _ (Expr.Call (Expr.Name "isinstance" _) _ _ _) _ _ _); refine de_isinstance ?_ (by assumption)) | ((with_reducible show DE _ _ (Expr.Call (Expr.Name "len" _) _ _ _) _ _ _); refine de_len ?_ (by assumption)) | ((with_reducible show DE _ _ (Expr.Call (Expr.Name "max" _) _ _ _) _ _ _); refine de_max ?_ (by assumption)) | ((with_reducible show DE _ _ (Expr.Call (Expr.Name "min" _) _ _ _) _ _ _); refine de_min ?_ (by assumption)) | ((with_reducible show DE _ _ (Expr.Call (Expr.Name "all" _) _ _ _) _ _ _); refine de_all ?_ (by assumption)) | ((with_reducible show DE _ _ (Expr.Call (Expr.Name "repr" _) _ _ _) _ _ _); refine de_repr ?_ (by assumption)) | ((with_reducible show DE _ _ (Expr.Call (Expr.Name "divmod" _) _ _ _) _ _ _); refine de_divmod ?_ (by assumption)) | ((with_reducible show DE _ _ (Expr.Call (Expr.Name "list" _) _ _ _) _ _ _); refine de_clist ?_ (by assumption)) | ((with_reducible show DE _ _ (Expr.Call (Expr.Name "tuple" _) _ _ _) _ _ _); refine de_ctuple ?_ (by assumption)) | ((with_reducible show DE _ _ (Expr.Call (Expr.Name "int" _) _ _ _) _ _ _); refine de_cint ?_ (by assumption)) | ((with_reducible show DE _ _ (Expr.Call (Expr.Name "str" _) _ _ _) _ _ _); refine de_cstr ?_ (by assumption)) | walk_at "down") | ((with_reducible show DE _ _ (Expr.BinOp _ _ _ _) _ _ _); refine de_op ?_) | ((with_reducible show DE _ _ (Expr.Compare _ [_] _ _) _ _ _); refine de_cmp ?_) | ((with_reducible show DE _ _ (Expr.Compare _ [_, _] _ _) _ _ _); refine de_chain ?_) | ((with_reducible show DE _ _ (Expr.Subscript _ (Expr.Slice _ _ _ _) _) _ _ _); refine de_slice ?_) | ((with_reducible show DE _ _ (Expr.Subscript _ _ _) _ _ _); refine de_ix ?_) | ((with_reducible show DE _ _ (Expr.BoolOp _ [_] _) _ _ _); refine de_one ?_) | ((with_reducible show DE _ _ (Expr.BoolOp BoolOp.And _ _) _ _ _); refine de_and ?_) | ((with_reducible show DE _ _ (Expr.BoolOp BoolOp.Or _ _) _ _ _); refine de_or ?_) | ((with_reducible show DE _ _ (Expr.UnaryOp UnaryOp.Not _ _) _ _ _); refine de_not ?_) | ((with_reducible show DE _ _ (Expr.UnaryOp _ _ _) _ _ _); refine de_un ?_) | ((with_reducible show DE _ _ (Expr.IfExp _ _ _ _) _ _ _); refine de_ifx ?_) | ((with_reducible show DE _ _ (Expr.Tuple _ _ _) _ _ _); refine de_tup ?_) | ((with_reducible show DE _ _ (Expr.List _ _) _ _ _); walk_at "dlst") | ((with_reducible show DE _ _ (Expr.Dict [] [] _) _ _ _); refine de_dict0 ?_) | walk_at "dhook")
    | ((with_reducible show DA _ _ _ _ _ _); first | ((with_reducible show DA _ _ [] _ _ _); refine da_nil ?_) | ((with_reducible show DA _ _ (_ :: _) _ _ _); refine da_cons ?_))
    | ((with_reducible show BoolR _ _); refine ⟨_, rfl, ?_⟩)
    | ((with_reducible show (_ = true → _) ∧ (_ = false → _)); (refine ⟨fun h => ?_, fun h => ?_⟩ <;> try (exact Bool.noConfusion h)))
    | ((with_reducible show OpD _ _ _ _ _ _ _); first | ((with_reducible show OpD _ _ (binaryOp Operator.Add) _ _ _ _); first | refine op_addI ?_ | refine op_addT ?_) | ((with_reducible show OpD _ _ (binaryOp Operator.Sub) _ _ _ _); refine op_subI ?_) | ((with_reducible show OpD _ _ (binaryOp Operator.Mod) _ _ _ _); refine op_modI (by first | decide | assumption) ?_) | ((with_reducible show OpD _ _ (binaryOp Operator.Mult) _ _ _ _); refine op_mulI (by first | exact .inr (by decide) | exact .inl (by decide) | (exact .inl (by omega))) ?_) | ((with_reducible show OpD _ _ (binaryOp Operator.Pow) _ _ _ _); refine op_powI (by decide) (by decide) (by decide) ?_) | ((with_reducible show OpD _ _ (binaryOp Operator.FloorDiv) _ _ _ _); refine op_fdivI (by decide) (by decide) ?_) | ((with_reducible show OpD _ _ (compareOp CmpOp.Lt) _ _ _ _); refine op_ltI ?_) | ((with_reducible show OpD _ _ (compareOp CmpOp.LtE) _ _ _ _); first | refine op_leI ?_ | refine op_leS ?_) | ((with_reducible show OpD _ _ (compareOp CmpOp.Gt) _ _ _ _); refine op_gtI ?_) | ((with_reducible show OpD _ _ (compareOp CmpOp.GtE) _ _ _ _); refine op_geI ?_) | ((with_reducible show OpD _ _ (compareOp CmpOp.Eq) _ _ _ _); first | refine op_eqI ?_ | refine op_eqS ?_) | ((with_reducible show OpD _ _ (compareOp CmpOp.NotEq) _ _ _ _); first | refine op_neI ?_ | refine op_neS ?_))
    | ((with_reducible show CaD _ _ _ _ _ _); first | ((with_reducible show CaD _ _ (Value.builtin "isinstance") [_, SV.ty "int"] _ _); refine ca_isi (by assumption) (kit_int _ (by assumption)) ?_) | ((with_reducible show CaD _ _ (Value.builtin "isinstance") [_, SV.ty "bool"] _ _); refine ca_isi (by assumption) (kit_bool _ (by assumption)) ?_) | ((with_reducible show CaD _ _ (Value.builtin "isinstance") [_, SV.ty "str"] _ _); refine ca_isi (by assumption) (kit_str _ (by assumption)) ?_) | ((with_reducible show CaD _ _ (Value.builtin "isinstance") [_, SV.ty "tuple"] _ _); refine ca_isi (by assumption) (kit_tuple _ (by assumption)) ?_) | ((with_reducible show CaD _ _ (Value.builtin "isinstance") [_, SV.ty "list"] _ _); refine ca_isi (by assumption) (kit_list _ (by assumption)) ?_) | ((with_reducible show CaD _ _ (Value.builtin "isinstance") [_, SV.ty "dict"] _ _); refine ca_isi (by assumption) (kit_dict _ (by assumption)) ?_) | ((with_reducible show CaD _ _ (Value.builtin "max") _ _ _); refine ca_max2 rfl ?_) | ((with_reducible show CaD _ _ (Value.builtin "min") _ _ _); refine ca_min2 rfl ?_) | ((with_reducible show CaD _ _ (Value.builtin "len") _ _ _); first | refine ca_lenT ?_ | refine ca_lenS (by assumption) ?_ | refine ca_lenSc ?_ | refine ca_lenL (.inl rfl) ?_) | ((with_reducible show CaD _ _ (Value.type "list") _ _ _); refine ca_listT ?_) | ((with_reducible show CaD _ _ (Value.builtin "divmod") _ _ _); refine ca_divmod (by assumption) (by omega) ?_) | walk_at "dca")
    | ((with_reducible show DT _ _ _ _ _ _); first | ((with_reducible show DT _ _ (Expr.BoolOp _ _ _) _ _ _); refine dt_w ?_) | ((with_reducible show DT _ _ (Expr.UnaryOp UnaryOp.Not _ _) _ _ _); refine dt_not ?_) | ((with_reducible show DT _ _ (Expr.Compare _ [_] _ _) _ _ _); refine dt_cmp ?_) | ((with_reducible show DT _ _ (Expr.Compare _ [_, _] _ _) _ _ _); refine dt_chain ?_) | refine dt_val ?_)
    | ((with_reducible show DW _ _ _ _ _ _); first | ((with_reducible show DW _ _ (Expr.BoolOp BoolOp.And [_] _) _ _ _); refine dw_and1 ?_) | ((with_reducible show DW _ _ (Expr.BoolOp BoolOp.Or [_] _) _ _ _); refine dw_or1 ?_) | ((with_reducible show DW _ _ (Expr.BoolOp BoolOp.And _ _) _ _ _); refine dw_and ?_) | ((with_reducible show DW _ _ (Expr.BoolOp BoolOp.Or _ _) _ _ _); refine dw_or ?_))
    | ((with_reducible show DSs _ _ _ _ _ _); first | ((with_reducible show DSs _ _ [] _ _ _); refine dss_nil ?_) | ((with_reducible show DSs _ _ [_] _ _ _); refine dss_one ?_) | ((with_reducible show DSs _ _ (_ :: _) _ _ _); refine dss_cons ?_))
    | ((with_reducible show DS _ _ _ _ _ _); first | ((with_reducible show DS _ _ (Stmt.Return (some _) _) _ _ _); refine ds_ret ?_) | ((with_reducible show DS _ _ (Stmt.If _ _ _ _) _ _ _); refine ds_if ?_) | ((with_reducible show DS _ _ (Stmt.Expr _ _) _ _ _); refine ds_expr ?_) | ((with_reducible show DS _ _ (Stmt.Assign [Expr.Name _ _] _ _) _ _ _); walk_at "dset"))
    | ((with_reducible show DP _ _ none _ _ _); refine dp_none ?_)
    | ((with_reducible show DP _ _ (some _) _ _ _); refine dp_some ?_)
    | ((with_reducible show ∃ d, SV.dat _ = SV.dat d ∧ Fi d ∧ _); refine ⟨_, rfl, by assumption, ?_⟩)
    | ((with_reducible show ∃ i, SV.dat (Dt.int _) = SV.dat (Dt.int i) ∧ _); refine ⟨_, rfl, ?_⟩)
    | ((with_reducible show SlD _ _ (SV.dat (Dt.tup _)) _ _ _ _); refine sl_dT ?_)
    | ((with_reducible show ∃ ds, undat _ = some ds ∧ ds.length ≤ 1000 ∧ _); refine ⟨_, rfl, Nat.le_of_ble_eq_true rfl, ?_⟩)
    | ((with_reducible show ∃ q, SV.at _ = SV.at q ∧ _); refine ⟨_, rfl, ?_⟩)
    | ((with_reducible show ∃ z, SV.dat (Dt.str _) = SV.dat (Dt.str z) ∧ _); refine ⟨_, rfl, ?_⟩)
    | ((with_reducible show IxD _ _ (SV.at _) (SV.dat (Dt.int 0)) _ _); refine ix_pot0 (by assumption) (fun _ _ => ?_))
    | ((with_reducible show IxD _ _ (SV.at _) (SV.dat (Dt.int 1)) _ _); refine ix_pot1 (by assumption) (fun _ _ _ => ?_))
    | ((with_reducible show UnD _ _ (unaryOp UnaryOp.USub) _ _ _); refine un_negI ?_)
    | ((with_reducible show Po.nx _ _ _); dsimp only)
    | ((with_reducible show Po.rt _ _ _); dsimp only))
local macro_rules
  | `(tactic| walk_at "drun") => `(tactic| repeat' (walk_at "dstep"))

/-! ### texts bent -/
def Ac (n : Nat) (x : Str) : Prop := ∃ l, x = SX.S l ∧ As n l
theorem ac_app {m n : Nat} {x y : Str} (hx : Ac m x) (hy : Ac n y) : Ac (m + n) (x ++ y) := by
  obtain ⟨a, rfl, h1, h2⟩ := hx
  obtain ⟨b, rfl, h3, h4⟩ := hy
  refine ⟨a ++ b, SX.S_cat a b, by rw [List.length_append]; omega, fun c hc => ?_⟩
  rcases List.mem_append.mp hc with h | h
  · exact h2 c h
  · exact h4 c h
theorem ac_lit (n : Nat) (s : Str) (h : (decide (s.cps.toList.length ≤ n) && s.cps.toList.all fun c => decide (c < 128)) = true) : Ac n s := by
  rw [Bool.and_eq_true, decide_eq_true_eq, List.all_eq_true] at h
  exact ⟨_, (SX.S_tl s).symm, h.1, fun c hc => of_decide_eq_true (h.2 c hc)⟩
theorem ac_len {n : Nat} {x : Str} (h : Ac n x) : x.length ≤ n := by
  obtain ⟨l, rfl, h1, _⟩ := h
  rw [SX.S_len]
  exact h1
theorem ac_up {m n : Nat} {x : Str} (h : Ac m x) (hn : m ≤ n) : Ac n x := by
  obtain ⟨l, rfl, h1, h2⟩ := h
  exact ⟨l, rfl, by omega, h2⟩
theorem ac_to {l : List Nat} {n : Nat} (h : As n l) (k : Nat) (hk : k ≤ l.length) : Ac k (cutS (SX.S l) none (some (k : Int))) := by
  rw [C8.cutS_slice, SX.slice_to (by omega)]
  refine ⟨_, rfl, by rw [List.length_take]; omega, fun c hc => h.2 c (List.mem_of_mem_take hc)⟩
theorem ac_from {l : List Nat} {n : Nat} (h : As n l) (k : Int) (hk : 0 ≤ k) : Ac (l.length - k.toNat) (cutS (SX.S l) (some k) none) := by
  rw [C8.cutS_slice, SX.slice_from hk]
  refine ⟨_, rfl, by rw [List.length_drop]; exact Nat.le_refl _, fun c hc => h.2 c (List.mem_of_mem_drop hc)⟩
theorem op_addA {X : Cx} {w : Wd} {μ : Mus} {R : SV → Mus → Prop} {x y : Str} {m n : Nat} (hx : Ac m x) (hy : Ac n y) (hz : m + n ≤ 1000) (h : R (.dat (.str (x ++ y))) μ) : OpD X w (binaryOp .Add) (.dat (.str x)) (.dat (.str y)) μ R :=
  op_addS (small_ok (by have := ac_len hx; have := ac_len hy; omega)) h
theorem ix_someL {X : Cx} {w : Wd} {μ : Mus} {R : SV → Mus → Prop} {r : SV} {xs : List Dt} {i : Int} (h1 : LsQ r μ xs) (h0 : 0 ≤ i) (hl : i < xs.length) (h : ∀ d, d ∈ xs → R (.dat d) μ) : IxD X w r (.dat (.int i)) μ R := by
  obtain ⟨d, hd, ha⟩ := atI_some xs i h0 hl
  exact ix_dL h1 ha (h d hd)
def spBent : Sp := QSp (fun ds => ∃ l, ds = [.str (SX.S l)] ∧ As 620 l) fun ds r => ∀ l, ds = [.str (SX.S l)] → ∃ z, r = .str z ∧ Ac (l.length + 4) z
theorem sign_at (v : Int) (h0 : 0 ≤ v) (h1 : v < 24) : ∃ c, atI ((".:abcxyz0123456789- A\n+_" : Str)).cps.toList v = some c ∧ c < 128 := by
  have hl : ((".:abcxyz0123456789- A\n+_" : Str)).cps.toList.length = 24 := by decide
  have hv : v.toNat < ((".:abcxyz0123456789- A\n+_" : Str)).cps.toList.length := by rw [hl]; omega
  refine ⟨((".:abcxyz0123456789- A\n+_" : Str)).cps.toList[v.toNat], ?_, ?_⟩
  · unfold atI ixN
    rw [if_pos h0, hl, if_pos (by omega)]
    exact List.getElem?_eq_getElem hv
  · have : ∀ c, c ∈ ((".:abcxyz0123456789- A\n+_" : Str)).cps.toList → c < 128 := by decide
    exact this _ (List.getElem_mem hv)
set_option hygiene false in
local macro_rules
  | `(tactic| walk_at "down") => `(tactic| first | ((with_reducible show DE _ _ (Expr.Call (Expr.Name "_law_take" _) _ _ _) _ _ _); refine de_take oTake hr (by decide) hg ?_))
section
variable {P : Program} {w : World} {K : PySem.W.Frag} {mg : Str → Option Value} {base : Heap}
abbrev sBent : Stmt := top 25
abbrev nBent : List Str := ["_law_pot_here", "_law_word", "_law_at", "_law_signs", "_law_sign", "_law_some"]
theorem scBent : FnScope nBent ["_law_pot_here", "_law_word"] (defScope sBent) := ⟨rfl, rfl, rfl, by decide +kernel, rfl, by decide +kernel, by decide +kernel⟩
theorem ok_bent {f : Addr} {fd : FuncData} (F : Fun K "_law_spoilt" "_law_spoilt" sBent f fd) (T : Txt mg) (oTake : Own P w K mg base "_law_take" 1 spTake) : FnG P w K mg base 2 f fd ["_law_pot_here", "_law_word"] spBent := by
  refine fn_pot F scBent (fun ds ⟨xs, e, _⟩ => by rw [e]; rfl) fun cdv A outer s H hr hg w' p ds μ hp ⟨l, e, hl⟩ => ?_
  subst e
  obtain ⟨t1, t2, t3, t4, t5, t6, t7, t8, t9, t10, t11, t12, t13, t14, t15, t16, t17, t18⟩ := T
  have hN : nBent.Nodup := by decide +kernel
  have hw : Ac l.length (SX.S l) := ⟨l, rfl, Nat.le_refl _, hl.2⟩
  have hn := hl.1
  have hz : (SX.S l).length ≤ sizeLine := by rw [SX.S_len]; exact small_ok (by omega)
  have hsz := SX.S_len l
  refine dss_cons (ds_set 2 hN ?_)
  walk_at "drun"
  refine ⟨hp, ⟨by omega, by omega⟩, fun a ha0 ha1 => ?_⟩
  obtain ⟨k, rfl⟩ := Int.eq_ofNat_of_zero_le ha0
  have hk : k ≤ l.length := by omega
  walk_at "drun"
  refine ds_set 3 hN ?_
  walk_at "drun"
  refine ds_set 4 hN ?_
  walk_at "drun"
  refine ⟨hp, ⟨by decide, by decide⟩, fun v hv0 hv1 => ?_⟩
  obtain ⟨c, hc, hc8⟩ := sign_at v hv0 hv1
  refine ix_dS (small_ok (by decide)) hc ?_
  have hs : Ac 1 (⟨#[c]⟩ : Str) := ⟨[c], rfl, by simp, fun d hd => by rw [List.mem_singleton.mp hd]; exact hc8⟩
  have cT := ac_to hl k hk
  have cF := ac_from hl (k : Int) (by omega)
  have cG := ac_from hl ((k : Int) + 1) (by omega)
  have e1 : ((k : Int)).toNat = k := by omega
  have e2 : ((k : Int) + 1).toNat = k + 1 := by omega
  rw [e1] at cF
  rw [e2] at cG
  generalize (⟨#[c]⟩ : Str) = sg at hs
  have L4 : ∀ s : Str, (decide (s.cps.toList.length ≤ 4) && s.cps.toList.all fun c => decide (c < 128)) = true → Ac 4 s := fun s h => ac_lit 4 s h
  walk_at "drun"
  refine ds_set 5 hN ?_
  walk_at "drun"
  refine sl_dS hz ?_
  walk_at "drun"
  refine sl_dS hz ?_
  refine op_addA cT cG (by omega) ?_
  walk_at "drun"
  refine sl_dS hz ?_
  walk_at "drun"
  refine op_addA cT hs (by omega) ?_
  walk_at "drun"
  refine sl_dS hz ?_
  refine op_addA (ac_app cT hs) cF (by omega) ?_
  walk_at "drun"
  refine sl_dS hz ?_
  walk_at "drun"
  refine op_addA cT hs (by omega) ?_
  walk_at "drun"
  refine sl_dS hz ?_
  refine op_addA (ac_app cT hs) cG (by omega) ?_
  walk_at "drun"
  refine op_addA hw (L4 _ (by decide)) (by omega) ?_
  walk_at "drun"
  refine ds_set 5 hN ?_
  walk_at "drun"
  refine op_addA hw (L4 _ (by decide)) (by omega) ?_
  walk_at "drun"
  refine op_addA (L4 _ (by decide)) hw (by omega) ?_
  walk_at "drun"
  refine op_addA hw (L4 _ (by decide)) (by omega) ?_
  walk_at "drun"
  refine op_addA hw (L4 _ (by decide)) (by omega) ?_
  walk_at "drun"
  refine op_addA hw (L4 _ (by decide)) (by omega) ?_
  walk_at "drun"
  refine op_addA hw (L4 _ (by decide)) (by omega) ?_
  walk_at "drun"
  refine op_addL (.inl rfl) (.inl rfl) (small_ok (Nat.le_of_ble_eq_true rfl)) ?_
  walk_at "drun"
  refine op_addA hw (L4 _ (by decide)) (by omega) ?_
  walk_at "drun"
  refine op_addA hw (L4 _ (by decide)) (by omega) ?_
  walk_at "drun"
  refine op_addL (.inl rfl) (.inl rfl) (small_ok (Nat.le_of_ble_eq_true rfl)) ?_
  walk_at "drun"
  refine ⟨hp, ⟨by decide, by decide⟩, fun u hu0 hu1 => ?_⟩
  refine ix_someL (.inl rfl) hu0 (by show u < ((12 : Nat) : Int); exact hu1) fun d hd => ⟨_, rfl, ?_, Mus.Sub.refl _⟩
  intro l2 e
  have e3 : l = l2 := by
    have := List.head_eq_of_cons_eq e
    injection this with h
    exact SX.S_inj h
  subst e3
  simp only [List.cons_append, List.nil_append, List.mem_cons, List.not_mem_nil, or_false] at hd
  rcases hd with rfl | rfl | rfl | rfl | rfl | rfl | rfl | rfl | rfl | rfl | rfl | rfl
  · exact ⟨_, rfl, ac_up (ac_app cT cG) (by omega)⟩
  · exact ⟨_, rfl, ac_up (ac_app (ac_app cT hs) cF) (by omega)⟩
  · exact ⟨_, rfl, ac_up (ac_app (ac_app cT hs) cG) (by omega)⟩
  · exact ⟨_, rfl, ac_app hw (L4 _ (by decide))⟩
  · exact ⟨_, rfl, ac_app hw (L4 _ (by decide))⟩
  · exact ⟨_, rfl, ac_up (ac_app (L4 _ (by decide)) hw) (by omega)⟩
  · exact ⟨_, rfl, ac_app hw (L4 _ (by decide))⟩
  · exact ⟨_, rfl, ac_app hw (L4 _ (by decide))⟩
  · exact ⟨_, rfl, ac_app hw (L4 _ (by decide))⟩
  · exact ⟨_, rfl, ac_app hw (L4 _ (by decide))⟩
  · exact ⟨_, rfl, ac_app hw (L4 _ (by decide))⟩
  · exact ⟨_, rfl, ac_app hw (L4 _ (by decide))⟩
end
end K18

set_option Elab.async false
set_option linter.all false
set_option maxRecDepth 100000
set_option maxHeartbeats 1000000
namespace K18
open PySem PySem.Spec PyProof.Rows L2 Dat
local macro_rules
  | `(tactic| walk_at "down") => `(tactic| fail "none")
local macro_rules
  | `(tactic| walk_at "dset") => `(tactic| fail "none")
local macro_rules
  | `(tactic| walk_at "dhook") => `(tactic| fail "none")
local macro_rules
  | `(tactic| walk_at "dca") => `(tactic| fail "none")
local macro_rules
  | `(tactic| walk_at "dlst") => `(tactic| refine de_lst ?_)
local macro_rules
  | `(tactic| walk_at "dstep") => `(tactic| first
    | ((with_reducible show DE _ _ _ _ _ _); first | ((with_reducible show DE _ _ (Expr.Name _ _) _ _ _); first | ((with_reducible show DE _ _ (Expr.Name "int" _) _ _ _); refine de_ty_int (by assumption) ?_) | ((with_reducible show DE _ _ (Expr.Name "str" _) _ _ _); refine de_ty_str (by assumption) ?_) | ((with_reducible show DE _ _ (Expr.Name "bool" _) _ _ _); refine de_ty_bool (by assumption) ?_) | ((with_reducible show DE _ _ (Expr.Name "tuple" _) _ _ _); refine de_ty_tuple (by assumption) ?_) | ((with_reducible show DE _ _ (Expr.Name "list" _) _ _ _); refine de_ty_list (by assumption) ?_) | ((with_reducible show DE _ _ (Expr.Name "dict" _) _ _ _); refine de_ty_dict (by assumption) ?_) | refine de_nm rfl ?_ | refine de_globI (by assumption) ?_) | ((with_reducible show DE _ _ (Expr.Constant _ _ _) _ _ _); first | refine de_int ?_ | refine de_str ?_ | refine de_bl ?_ | refine de_non ?_) | ((with_reducible show DE _ _ (Expr.Call (Expr.Name _ _) _ _ _) _ _ _); first | ((with_reducible show DE _ _ (Expr.Call (Expr.Name "isinstance" _) _ _ _) _ _ _); refine de_isinstance ?_ (by assumption)) | ((with_reducible show DE _ _ (Expr.Call (Expr.Name "len" _) _ _ _) _ _ _); refine de_len ?_ (by assumption)) | ((with_reducible show DE _ _ (Expr.Call (Expr.Name "max" _) _ _ _) _ _ _); refine de_max ?_ (by assumption)) | ((with_reducible show DE _ _ (Expr.Call (Expr.Name "min" _) _ _ _) _ _ _); refine de_min ?_ (by assumption)) | ((with_reducible show DE _ _ (Expr.Call (Expr.Name "all" _) _ _ _) _ _ _); refine de_all ?_ (by assumption)) | ((with_reducible show DE _ _ (Expr.Call (Expr.Name "repr" _) _ _ _) _ _ _); refine de_repr ?_ (by assumption)) | ((with_reducible show DE _ _ (Expr.Call (Expr.Name "divmod" _) _ _ _) _ _ _); refine de_divmod ?_ (by assumption)) | ((with_reducible show DE _ _ (Expr.Call (Expr.Name "list" _) _ _ _) _ _ _); refine de_clist ?_ (by assumption)) | ((with_reducible show DE _ _ (Expr.Call (Expr.Name "tuple" _) _ _ _) _ _ _); refine de_ctuple ?_ (by assumption)) | ((with_reducible show DE _ _ (Expr.Call (Expr.Name "int" _) _ _ _) _ _ _); refine de_cint ?_ (by assumption)) | ((with_reducible show DE _ _ (Expr.Call (Expr.Name "str" _) _ _ _) _ _ _); refine de_cstr ?_ (by assumption)) | walk_at "down") | ((with_reducible show DE _ _ (Expr.BinOp _ _ _ _) _ _ _); refine de_op ?_) | ((with_reducible show DE _ _ (Expr.Compare _ [_] _ _) _ _ _); refine de_cmp ?_) | ((with_reducible show DE _ _ (Expr.Compare _ [_, _] _ _) _ _ _); refine de_chain ?_) | ((with_reducible show DE _ _ (Expr.Subscript _ (Expr.Slice _ _ _ _) _) _ _ _); refine de_slice ?_) | ((with_reducible show DE _ _ (Expr.Subscript _ _ _) _ _ _); refine de_ix ?_) | ((with_reducible show DE _ _ (Expr.BoolOp _ [_] _) _ _ _); refine de_one ?_) | ((with_reducible show DE _ _ (Expr.BoolOp BoolOp.And _ _) _ _ _); refine de_and ?_) | ((with_reducible show DE _ _ (Expr.BoolOp BoolOp.Or _ _) _ _ _); refine de_or ?_) | ((with_reducible show DE _ _ (Expr.UnaryOp UnaryOp.Not _ _) _ _ _); refine de_not ?_) | ((with_reducible show DE _ _ (Expr.UnaryOp _ _ _) _ _ _); refine de_un ?_) | ((with_reducible show DE _ _ (Expr.IfExp _ _ _ _) _ _ _); refine de_ifx ?_) | ((with_reducible show DE _ _ (Expr.Tuple _ _ _) _ _ _); refine de_tup ?_) | ((with_reducible show DE _ _ (Expr.List _ _) _ _ _); walk_at "dlst") | ((with_reducible show DE _ _ (Expr.Dict [] [] _) _ _ _); refine de_dict0 ?_) | walk_at "dhook")
    | ((with_reducible show DA _ _ _ _ _ _); first | ((with_reducible show DA _ _ [] _ _ _); refine da_nil ?_) | ((with_reducible show DA _ _ (_ :: _) _ _ _); refine da_cons ?_))
    | ((with_reducible show BoolR _ _); refine ⟨_, rfl, ?_⟩)
    | ((with_reducible show (_ = true → _) ∧ (_ = false → _)); (refine ⟨fun h => ?_, fun h => ?_⟩ <;> try (exact Bool.noConfusion h)))
    | ((with_reducible show OpD _ _ _ _ _ _ _); first | ((with_reducible show OpD _ _ (binaryOp Operator.Add) _ _ _ _); first | refine op_addI ?_ | refine op_addT ?_) | ((with_reducible show OpD _ _ (binaryOp Operator.Sub) _ _ _ _); refine op_subI ?_) | ((with_reducible show OpD _ _ (binaryOp Operator.Mod) _ _ _ _); refine op_modI (by first | decide | assumption) ?_) | ((with_reducible show OpD _ _ (binaryOp Operator.Mult) _ _ _ _); refine op_mulI (by first | exact .inr (by decide) | exact .inl (by decide) | (exact .inl (by omega))) ?_) | ((with_reducible show OpD _ _ (binaryOp Operator.Pow) _ _ _ _); refine op_powI (by decide) (by decide) (by decide) ?_) | ((with_reducible show OpD _ _ (binaryOp Operator.FloorDiv) _ _ _ _); refine op_fdivI (by decide) (by decide) ?_) | ((with_reducible show OpD _ _ (compareOp CmpOp.Lt) _ _ _ _); refine op_ltI ?_) | ((with_reducible show OpD _ _ (compareOp CmpOp.LtE) _ _ _ _); first | refine op_leI ?_ | refine op_leS ?_) | ((with_reducible show OpD _ _ (compareOp CmpOp.Gt) _ _ _ _); refine op_gtI ?_) | ((with_reducible show OpD _ _ (compareOp CmpOp.GtE) _ _ _ _); refine op_geI ?_) | ((with_reducible show OpD _ _ (compareOp CmpOp.Eq) _ _ _ _); first | refine op_eqI ?_ | refine op_eqS ?_) | ((with_reducible show OpD _ _ (compareOp CmpOp.NotEq) _ _ _ _); first | refine op_neI ?_ | refine op_neS ?_))
    | ((with_reducible show CaD _ _ _ _ _ _); first | ((with_reducible show CaD _ _ (Value.builtin "isinstance") [_, SV.ty "int"] _ _); refine ca_isi (by assumption) (kit_int _ (by assumption)) ?_) | ((with_reducible show CaD _ _ (Value.builtin "isinstance") [_, SV.ty "bool"] _ _); refine ca_isi (by assumption) (kit_bool _ (by assumption)) ?_) | ((with_reducible show CaD _ _ (Value.builtin "isinstance") [_, SV.ty "str"] _ _); refine ca_isi (by assumption) (kit_str _ (by assumption)) ?_) | ((with_reducible show CaD _ _ (Value.builtin "isinstance") [_, SV.ty "tuple"] _ _); refine ca_isi (by assumption) (kit_tuple _ (by assumption)) ?_) | ((with_reducible show CaD _ _ (Value.builtin "isinstance") [_, SV.ty "list"] _ _); refine ca_isi (by assumption) (kit_list _ (by assumption)) ?_) | ((with_reducible show CaD _ _ (Value.builtin "isinstance") [_, SV.ty "dict"] _ _); refine ca_isi (by assumption) (kit_dict _ (by assumption)) ?_) | ((with_reducible show CaD _ _ (Value.builtin "max") _ _ _); refine ca_max2 rfl ?_) | ((with_reducible show CaD _ _ (Value.builtin "min") _ _ _); refine ca_min2 rfl ?_) | ((with_reducible show CaD _ _ (Value.builtin "len") _ _ _); first | refine ca_lenT ?_ | refine ca_lenS (by assumption) ?_ | refine ca_lenSc ?_ | refine ca_lenL (.inl rfl) ?_) | ((with_reducible show CaD _ _ (Value.type "list") _ _ _); refine ca_listT ?_) | ((with_reducible show CaD _ _ (Value.builtin "divmod") _ _ _); refine ca_divmod (by assumption) (by omega) ?_) | walk_at "dca")
    | ((with_reducible show DT _ _ _ _ _ _); first | ((with_reducible show DT _ _ (Expr.BoolOp _ _ _) _ _ _); refine dt_w ?_) | ((with_reducible show DT _ _ (Expr.UnaryOp UnaryOp.Not _ _) _ _ _); refine dt_not ?_) | ((with_reducible show DT _ _ (Expr.Compare _ [_] _ _) _ _ _); refine dt_cmp ?_) | ((with_reducible show DT _ _ (Expr.Compare _ [_, _] _ _) _ _ _); refine dt_chain ?_) | refine dt_val ?_)
    | ((with_reducible show DW _ _ _ _ _ _); first | ((with_reducible show DW _ _ (Expr.BoolOp BoolOp.And [_] _) _ _ _); refine dw_and1 ?_) | ((with_reducible show DW _ _ (Expr.BoolOp BoolOp.Or [_] _) _ _ _); refine dw_or1 ?_) | ((with_reducible show DW _ _ (Expr.BoolOp BoolOp.And _ _) _ _ _); refine dw_and ?_) | ((with_reducible show DW _ _ (Expr.BoolOp BoolOp.Or _ _) _ _ _); refine dw_or ?_))
    | ((with_reducible show DSs _ _ _ _ _ _); first | ((with_reducible show DSs _ _ [] _ _ _); refine dss_nil ?_) | ((with_reducible show DSs _ _ [_] _ _ _); refine dss_one ?_) | ((with_reducible show DSs _ _ (_ :: _) _ _ _); refine dss_cons ?_))
    | ((with_reducible show DS _ _ _ _ _ _); first | ((with_reducible show DS _ _ (Stmt.Return (some _) _) _ _ _); refine ds_ret ?_) | ((with_reducible show DS _ _ (Stmt.If _ _ _ _) _ _ _); refine ds_if ?_) | ((with_reducible show DS _ _ (Stmt.Expr _ _) _ _ _); refine ds_expr ?_) | ((with_reducible show DS _ _ (Stmt.Assign [Expr.Name _ _] _ _) _ _ _); walk_at "dset"))
    | ((with_reducible show DP _ _ none _ _ _); refine dp_none ?_)
    | ((with_reducible show DP _ _ (some _) _ _ _); refine dp_some ?_)
    | ((with_reducible show ∃ d, SV.dat _ = SV.dat d ∧ Fi d ∧ _); refine ⟨_, rfl, by assumption, ?_⟩)
    | ((with_reducible show ∃ i, SV.dat (Dt.int _) = SV.dat (Dt.int i) ∧ _); refine ⟨_, rfl, ?_⟩)
    | ((with_reducible show SlD _ _ (SV.dat (Dt.tup _)) _ _ _ _); refine sl_dT ?_)
    | ((with_reducible show ∃ ds, undat _ = some ds ∧ ds.length ≤ 1000 ∧ _); refine ⟨_, rfl, Nat.le_of_ble_eq_true rfl, ?_⟩)
    | ((with_reducible show ∃ q, SV.at _ = SV.at q ∧ _); refine ⟨_, rfl, ?_⟩)
    | ((with_reducible show ∃ z, SV.dat (Dt.str _) = SV.dat (Dt.str z) ∧ _); refine ⟨_, rfl, ?_⟩)
    | ((with_reducible show IxD _ _ (SV.at _) (SV.dat (Dt.int 0)) _ _); refine ix_pot0 (by assumption) (fun _ _ => ?_))
    | ((with_reducible show IxD _ _ (SV.at _) (SV.dat (Dt.int 1)) _ _); refine ix_pot1 (by assumption) (fun _ _ _ => ?_))
    | ((with_reducible show UnD _ _ (unaryOp UnaryOp.USub) _ _ _); refine un_negI ?_)
    | ((with_reducible show Po.nx _ _ _); dsimp only)
    | ((with_reducible show Po.rt _ _ _); dsimp only))
local macro_rules
  | `(tactic| walk_at "drun") => `(tactic| repeat' (walk_at "dstep"))

/-! ### a WHO's text -/
def dg (y : Int) : List Nat := TL.numL y.toNat
def fl (ns : List Int) : List Nat := (ns.map fun y => 46 :: dg y).flatten
theorem str_dg {y : Int} (h : 0 ≤ y) : Str.ofString (toString y) = SX.S (dg y) := by
  obtain ⟨k, rfl⟩ := Int.eq_ofNat_of_zero_le h
  exact SX.num_S k
theorem dg_facts {y : Int} (h0 : 0 ≤ y) (h1 : y ≤ 11) : numL (dg y) = .int y ∧ 46 ∉ dg y ∧ (dg y).length ≤ 2 ∧ ∀ c, c ∈ dg y → c < 128 := by
  have h : ∀ k, k < 12 → ((match numL (TL.numL k) with | .int n => decide (n = (k : Int)) | _ => false) && decide (46 ∉ TL.numL k) && decide ((TL.numL k).length ≤ 2) && (TL.numL k).all fun c => decide (c < 128)) = true := by decide +kernel
  have := h y.toNat (by omega)
  rw [Bool.and_eq_true, Bool.and_eq_true, Bool.and_eq_true, decide_eq_true_eq, decide_eq_true_eq, List.all_eq_true] at this
  obtain ⟨⟨⟨a, b⟩, c⟩, d⟩ := this
  refine ⟨?_, b, c, fun e he => of_decide_eq_true (d e he)⟩
  unfold dg
  split at a
  · rename_i n e
    rw [e, of_decide_eq_true a, Int.toNat_of_nonneg h0]
  · cases a
theorem joinL_nil : ∀ xs : List (List Nat), TL.joinL [] xs = xs.flatten
  | [] => rfl
  | [p] => by simp [TL.joinL]
  | p :: q :: r => by
    show p ++ ([] ++ TL.joinL [] (q :: r)) = _
    rw [joinL_nil (q :: r)]
    rfl
theorem joinL_dot : ∀ (ns : List Int) (l : List Nat), TL.joinL [46] (l :: ns.map dg) = l ++ fl ns
  | [], l => by simp [TL.joinL, fl]
  | n :: ns, l => by
    show l ++ ([46] ++ TL.joinL [46] (dg n :: ns.map dg)) = _
    rw [joinL_dot ns (dg n)]
    simp [fl]
theorem fl_len : ∀ ns : List Int, (∀ y, y ∈ ns → 0 ≤ y ∧ y ≤ 11) → (fl ns).length ≤ 3 * ns.length ∧ ∀ c, c ∈ fl ns → c < 128
  | [], _ => ⟨by simp [fl], by simp [fl]⟩
  | n :: ns, h => by
    obtain ⟨h1, h2⟩ := fl_len ns fun y hy => h y (List.mem_cons_of_mem _ hy)
    have hn := h n List.mem_cons_self
    obtain ⟨_, _, h3, h4⟩ := dg_facts hn.1 hn.2
    have e : fl (n :: ns) = 46 :: (dg n ++ fl ns) := by simp [fl]
    rw [e]
    refine ⟨by simp; omega, fun c hc => ?_⟩
    rcases List.mem_cons.mp hc with rfl | g
    · decide
    · rcases List.mem_append.mp g with g | g
      · exact h4 c g
      · exact h2 c g
def wordL (l : List Nat) (ns : List Int) : List Nat := l ++ fl ns
def pathD (l : List Nat) (ns : List Int) : Dt := .tup (.str (SX.S l) :: ns.map .int)
section
variable {l : List Nat} {ns : List Int} (hl : Nm l) (hn : ∀ y, y ∈ ns → 0 ≤ y ∧ y ≤ 11)
include hl hn
theorem parts_in : ∀ d, d ∈ (.str (SX.S l) :: ns.map .int : List Dt) → Part d := by
  intro d hd
  rcases List.mem_cons.mp hd with rfl | h
  · exact .inl ⟨l, rfl, hl.2.1, fun c hc => by have := hl.2.2 c hc; omega⟩
  · obtain ⟨y, hy, rfl⟩ := List.mem_map.mp h
    exact .inr ⟨y, rfl, hn y hy⟩
theorem whoX_word : whoX (.str (SX.S l) :: ns.map .int) = SX.S (wordL l ns) := by
  have e : (Dt.str (SX.S l) :: ns.map Dt.int).map partX = (l :: ns.map dg).map SX.S := by
    rw [List.map_cons, List.map_cons, List.map_map, List.map_map]
    congr 1
    exact List.map_congr_left fun y hy => str_dg (hn y hy).1
  show Txt.join "." _ = _
  rw [e]
  exact (SX.join_S [46] _).trans (by rw [joinL_dot]; rfl)
theorem word_as (h : ns.length ≤ 198) : As 602 (wordL l ns) := by
  obtain ⟨h1, h2⟩ := fl_len ns hn
  have := hl.2.1
  refine ⟨by unfold wordL; rw [List.length_append]; omega, fun c hc => ?_⟩
  rcases List.mem_append.mp hc with g | g
  · have := hl.2.2 c g; omega
  · exact h2 c g
theorem whoP_word : whoP (.str (SX.S (wordL l ns))) = some (pathD l ns) := by
  have e : splD (wordL l ns) = l :: ns.map dg := by
    unfold splD wordL
    rw [← joinL_dot]
    refine SX.spl_join (by simp) fun p hp => ?_
    rcases List.mem_cons.mp hp with rfl | h
    · exact fun h => by have := hl.2.2 46 h; omega
    · obtain ⟨y, hy, rfl⟩ := List.mem_map.mp h
      exact (dg_facts (hn y hy).1 (hn y hy).2).2.1
  have em : (ns.map dg).map numL = ns.map Dt.int := by
    rw [List.map_map]
    exact List.map_congr_left fun y hy => (dg_facts (hn y hy).1 (hn y hy).2).1
  show whoT (splD (wordL l ns)) = _
  rw [e, whoT_if, em]
  refine if_pos ?_
  show (nameD (.str (SX.S l)) && (ns.map Dt.int).all (inD 0 11)) = true
  rw [Bool.and_eq_true]
  constructor
  · have := hl.1
    have := hl.2.1
    simp only [nameD, Bool.and_eq_true, decide_eq_true_eq, SX.S_len]
    refine ⟨⟨by omega, by omega⟩, List.all_eq_true.mpr fun c hc => ?_⟩
    have := hl.2.2 c hc
    simp [low, this.1, this.2]
  · rw [List.all_map, List.all_eq_true]
    intro y hy
    have := hn y hy
    simp [inD, this.1, this.2]
theorem path_wt : Wt ns.length (pathD l ns) := ⟨l, ns, rfl, hl.2.1, hl.2.2, Nat.le_refl _, hn⟩
end
theorem four_shown {x : Str} {v : Dt} (h : Ac 640 x) (hw : fine 1000 1000 1 v ∧ hasDic v = false ∧ (toPy v).shown.length ≤ 36003) : Shown (.lst [.str x, .str x, v, v]) := by
  obtain ⟨l, rfl, h1, h2⟩ := h
  have mem : ∀ d, d ∈ [Dt.str (SX.S l), .str (SX.S l), v, v] → d = .str (SX.S l) ∨ d = v := fun d hd => by
    simp only [List.mem_cons, List.not_mem_nil, or_false] at hd
    rcases hd with h | h | h | h
    · exact .inl h
    · exact .inl h
    · exact .inr h
    · exact .inr h
  have hc : ∀ c ∈ (SX.S l).cps.toList, c < 256 := fun c hc => by have := h2 c hc; omega
  have f : fine 1000 1000 2 (.lst [.str (SX.S l), .str (SX.S l), v, v]) := by
    rw [fine]
    refine ⟨by simp, fun d hd => ?_⟩
    rcases mem d hd with rfl | rfl
    · exact fine_str 1 ⟨by rw [SX.S_len]; omega, hc⟩
    · exact hw.1
  have q := lst_len (ds := [.str (SX.S l), .str (SX.S l), v, v]) (L := 36003) fun d hd => by
    rcases mem d hd with rfl | rfl
    · have := str_len hc
      have := SX.S_len l
      omega
    · exact hw.2.2
  have e : [Dt.str (SX.S l), .str (SX.S l), v, v].length = 4 := rfl
  rw [e] at q
  exact shown_of f (by omega) (by decide) (by simp [hasDic, hasDicA, hw.2.1])
end K18

set_option Elab.async false
set_option linter.all false
set_option maxRecDepth 100000
set_option maxHeartbeats 16000000
namespace Dat
open PySem PySem.Spec PyProof.Rows L2
structure OwnK (P : Program) (w : World) (K : PySem.W.Frag) (mg : Str → Option Value) (base : Heap) (x : Str) (k : Nat) (nm : Str) (sp : Sp) : Prop where
  ex : ∃ f fd, FnG P w K mg base k f fd [nm] sp ∧ mg x = some (.ref f) ∧ PySem.W.keepIn K (.ref f) = true ∧ Binds K fd [nm] [] ∧ ∀ (s : Shared) (u : Value), BindsTo s fd ⟨[], [(nm, u)]⟩ [(nm, u)]
theorem OwnK.own {P : Program} {w : World} {K : PySem.W.Frag} {mg : Str → Option Value} {base : Heap} {x : Str} {k : Nat} {nm : Str} {sp : Sp} (O : OwnK P w K mg base x k nm sp) : Own P w K mg base x k sp := by
  obtain ⟨f, fd, a, b, c, d, _⟩ := O.ex
  exact ⟨f, fd, [nm], a, b, c, d⟩
theorem de_kwO {X : Cx} {w : Wd} {ρ : List SV} {μ : Mus} {R : SV → Mus → Prop} {e : Expr} {x : Str} {p pos kpos : Pos} {j k : Nat} {nm : Str} {ok : List Dt → Prop} {res : List Dt → Dt → Prop} (O : OwnK X.prog X.w X.K X.mg X.base x k nm (PSp ok res)) (hr : Room j X.A) (hkj : k ≤ j) (hgd : X.A.guards = some [])
    (ha : DE X w e ρ μ fun r μ1 => ∃ d, r = .dat d ∧ ok [d] ∧ ∀ v, res [d] v → R (.dat v) μ1) (hg : Gl X x := by rfl) (hdb : (x == ("__debug__" : Str)) = false := by decide)
    (hall : (backToKw pos (keywordEach [⟨some nm, e, kpos⟩] X.env)).all (·.1.isSome) = true := by rfl) (hks : (backToKw pos (keywordEach [⟨some nm, e, kpos⟩] X.env)).filterMap (·.1) = [nm] := by rfl)
    (hpl : ((backTo pos (starEach [] X.env)).any (·.1) || (backToKw pos (keywordEach [⟨some nm, e, kpos⟩] X.env)).any (·.1.isNone)) = false := by rfl) : DE X w (.Call (.Name x p) [] [⟨some nm, e, kpos⟩] pos) ρ μ R := by
  obtain ⟨f, fd, F, hm, hk, _, hb⟩ := O.ex
  refine de_kw1 F (hr.mono hkj) hgd hm hk hb (ha.imp fun r μ1 ⟨d, e1, h1, h2⟩ => ?_) hg hdb hall hks hpl
  subst e1
  refine ⟨⟨[d], rfl, h1⟩, fun r' μ2 q => ?_⟩
  obtain ⟨v, rfl, h3, rfl⟩ := q [d] rfl
  exact h2 v h3
theorem de_kwXO {X : Cx} {w : Wd} {ρ : List SV} {μ : Mus} {R : SV → Mus → Prop} {e : Expr} {x : Str} {p pos kpos : Pos} {j k : Nat} {nm : Str} {C : Addr} {W : WX} {pre : List SV → Mus → Prop} {post : List SV → Mus → SV → Mus → Prop} {exc : List SV → Mus → Prop} (O : OwnX X.prog X.w X.K X.mg X.base x k [nm] (XSp C pre post exc)) (tk : Takes X W) (hr : Room j X.A) (hkj : k ≤ j) (hgd : X.A.guards = some [])
    (ha : DE X w e ρ μ fun r μ1 => pre [r] μ1 ∧ (∀ r' μ2, post [r] μ1 r' μ2 → R r' μ2) ∧ (exc [r] μ1 → ∀ σ B H, Sto B σ ρ → SInv w B H μ1 → W (.ref C) none σ H)) (hg : Gl X x := by rfl) (hdb : (x == ("__debug__" : Str)) = false := by decide)
    (hall : (backToKw pos (keywordEach [⟨some nm, e, kpos⟩] X.env)).all (·.1.isSome) = true := by rfl) (hks : (backToKw pos (keywordEach [⟨some nm, e, kpos⟩] X.env)).filterMap (·.1) = [nm] := by rfl)
    (hpl : ((backTo pos (starEach [] X.env)).any (·.1) || (backToKw pos (keywordEach [⟨some nm, e, kpos⟩] X.env)).any (·.1.isNone)) = false := by rfl) : DE X w (.Call (.Name x p) [] [⟨some nm, e, kpos⟩] pos) ρ μ R := by
  obtain ⟨f, fd, F, hm, hk, _, hb⟩ := O.ex
  exact de_kwX F tk (hr.mono hkj) hgd hm hk (hb nm rfl) ha hg hdb hall hks hpl
end Dat
namespace K18
open PySem PySem.Spec PyProof.Rows L2 Dat
local macro_rules
  | `(tactic| walk_at "down") => `(tactic| fail "none")
local macro_rules
  | `(tactic| walk_at "dset") => `(tactic| fail "none")
local macro_rules
  | `(tactic| walk_at "dhook") => `(tactic| fail "none")
local macro_rules
  | `(tactic| walk_at "dca") => `(tactic| fail "none")
local macro_rules
  | `(tactic| walk_at "dlst") => `(tactic| refine de_lst ?_)
local macro_rules
  | `(tactic| walk_at "dstep") => `(tactic| first
    | ((with_reducible show DE _ _ _ _ _ _); first | ((with_reducible show DE _ _ (Expr.Name _ _) _ _ _); first | ((with_reducible show DE _ _ (Expr.Name "int" _) _ _ _); refine de_ty_int (by assumption) ?_) | ((with_reducible show DE _ _ (Expr.Name "str" _) _ _ _); refine de_ty_str (by assumption) ?_) | ((with_reducible show DE _ _ (Expr.Name "bool" _) _ _ _); refine de_ty_bool (by assumption) ?_) | ((with_reducible show DE _ _ (Expr.Name "tuple" _) _ _ _); refine de_ty_tuple (by assumption) ?_) | ((with_reducible show DE _ _ (Expr.Name "list" _) _ _ _); refine de_ty_list (by assumption) ?_) | ((with_reducible show DE _ _ (Expr.Name "dict" _) _ _ _); refine de_ty_dict (by assumption) ?_) | refine de_nm rfl ?_ | refine de_globI (by assumption) ?_) | ((with_reducible show DE _ _ (Expr.Constant _ _ _) _ _ _); first | refine de_int ?_ | refine de_str ?_ | refine de_bl ?_ | refine de_non ?_) | ((with_reducible show DE _ _ (Expr.Call (Expr.Name _ _) _ _ _) _ _ _); first | ((with_reducible show DE _ _ (Expr.Call (Expr.Name "isinstance" _) _ _ _) _ _ _); refine de_isinstance ?_ (by assumption)) | ((with_reducible show DE _ _ (Expr.Call (Expr.Name "len" _) _ _ _) _ _ _); refine de_len ?_ (by assumption)) | ((with_reducible show DE _ _ (Expr.Call (Expr.Name "max" _) _ _ _) _ _ _); refine de_max ?_ (by assumption)) | ((with_reducible show DE _ _ (Expr.Call (Expr.Name "min" _) _ _ _) _ _ _); refine de_min ?_ (by assumption)) | ((with_reducible show DE _ _ (Expr.Call (Expr.Name "all" _) _ _ _) _ _ _); refine de_all ?_ (by assumption)) | ((with_reducible show DE _ _ (Expr.Call (Expr.Name "repr" _) _ _ _) _ _ _); refine de_repr ?_ (by assumption)) | ((with_reducible show DE _ _ (Expr.Call (Expr.Name "divmod" _) _ _ _) _ _ _); refine de_divmod ?_ (by assumption)) | ((with_reducible show DE _ _ (Expr.Call (Expr.Name "list" _) _ _ _) _ _ _); refine de_clist ?_ (by assumption)) | ((with_reducible show DE _ _ (Expr.Call (Expr.Name "tuple" _) _ _ _) _ _ _); refine de_ctuple ?_ (by assumption)) | ((with_reducible show DE _ _ (Expr.Call (Expr.Name "int" _) _ _ _) _ _ _); refine de_cint ?_ (by assumption)) | ((with_reducible show DE _ _ (Expr.Call (Expr.Name "str" _) _ _ _) _ _ _); refine de_cstr ?_ (by assumption)) | walk_at "down") | ((with_reducible show DE _ _ (Expr.BinOp _ _ _ _) _ _ _); refine de_op ?_) | ((with_reducible show DE _ _ (Expr.Compare _ [_] _ _) _ _ _); refine de_cmp ?_) | ((with_reducible show DE _ _ (Expr.Compare _ [_, _] _ _) _ _ _); refine de_chain ?_) | ((with_reducible show DE _ _ (Expr.Subscript _ (Expr.Slice _ _ _ _) _) _ _ _); refine de_slice ?_) | ((with_reducible show DE _ _ (Expr.Subscript _ _ _) _ _ _); refine de_ix ?_) | ((with_reducible show DE _ _ (Expr.BoolOp _ [_] _) _ _ _); refine de_one ?_) | ((with_reducible show DE _ _ (Expr.BoolOp BoolOp.And _ _) _ _ _); refine de_and ?_) | ((with_reducible show DE _ _ (Expr.BoolOp BoolOp.Or _ _) _ _ _); refine de_or ?_) | ((with_reducible show DE _ _ (Expr.UnaryOp UnaryOp.Not _ _) _ _ _); refine de_not ?_) | ((with_reducible show DE _ _ (Expr.UnaryOp _ _ _) _ _ _); refine de_un ?_) | ((with_reducible show DE _ _ (Expr.IfExp _ _ _ _) _ _ _); refine de_ifx ?_) | ((with_reducible show DE _ _ (Expr.Tuple _ _ _) _ _ _); refine de_tup ?_) | ((with_reducible show DE _ _ (Expr.List _ _) _ _ _); walk_at "dlst") | ((with_reducible show DE _ _ (Expr.Dict [] [] _) _ _ _); refine de_dict0 ?_) | walk_at "dhook")
    | ((with_reducible show DA _ _ _ _ _ _); first | ((with_reducible show DA _ _ [] _ _ _); refine da_nil ?_) | ((with_reducible show DA _ _ (_ :: _) _ _ _); refine da_cons ?_))
    | ((with_reducible show BoolR _ _); refine ⟨_, rfl, ?_⟩)
    | ((with_reducible show (_ = true → _) ∧ (_ = false → _)); (refine ⟨fun h => ?_, fun h => ?_⟩ <;> try (exact Bool.noConfusion h)))
    | ((with_reducible show OpD _ _ _ _ _ _ _); first | ((with_reducible show OpD _ _ (binaryOp Operator.Add) _ _ _ _); first | refine op_addI ?_ | refine op_addT ?_) | ((with_reducible show OpD _ _ (binaryOp Operator.Sub) _ _ _ _); refine op_subI ?_) | ((with_reducible show OpD _ _ (binaryOp Operator.Mod) _ _ _ _); refine op_modI (by first | decide | assumption) ?_) | ((with_reducible show OpD _ _ (binaryOp Operator.Mult) _ _ _ _); refine op_mulI (by first | exact .inr (by decide) | exact .inl (by decide) | (exact .inl (by omega))) ?_) | ((with_reducible show OpD _ _ (binaryOp Operator.Pow) _ _ _ _); refine op_powI (by decide) (by decide) (by decide) ?_) | ((with_reducible show OpD _ _ (binaryOp Operator.FloorDiv) _ _ _ _); refine op_fdivI (by decide) (by decide) ?_) | ((with_reducible show OpD _ _ (compareOp CmpOp.Lt) _ _ _ _); refine op_ltI ?_) | ((with_reducible show OpD _ _ (compareOp CmpOp.LtE) _ _ _ _); first | refine op_leI ?_ | refine op_leS ?_) | ((with_reducible show OpD _ _ (compareOp CmpOp.Gt) _ _ _ _); refine op_gtI ?_) | ((with_reducible show OpD _ _ (compareOp CmpOp.GtE) _ _ _ _); refine op_geI ?_) | ((with_reducible show OpD _ _ (compareOp CmpOp.Eq) _ _ _ _); first | refine op_eqI ?_ | refine op_eqS ?_) | ((with_reducible show OpD _ _ (compareOp CmpOp.NotEq) _ _ _ _); first | refine op_neI ?_ | refine op_neS ?_))
    | ((with_reducible show CaD _ _ _ _ _ _); first | ((with_reducible show CaD _ _ (Value.builtin "isinstance") [_, SV.ty "int"] _ _); refine ca_isi (by assumption) (kit_int _ (by assumption)) ?_) | ((with_reducible show CaD _ _ (Value.builtin "isinstance") [_, SV.ty "bool"] _ _); refine ca_isi (by assumption) (kit_bool _ (by assumption)) ?_) | ((with_reducible show CaD _ _ (Value.builtin "isinstance") [_, SV.ty "str"] _ _); refine ca_isi (by assumption) (kit_str _ (by assumption)) ?_) | ((with_reducible show CaD _ _ (Value.builtin "isinstance") [_, SV.ty "tuple"] _ _); refine ca_isi (by assumption) (kit_tuple _ (by assumption)) ?_) | ((with_reducible show CaD _ _ (Value.builtin "isinstance") [_, SV.ty "list"] _ _); refine ca_isi (by assumption) (kit_list _ (by assumption)) ?_) | ((with_reducible show CaD _ _ (Value.builtin "isinstance") [_, SV.ty "dict"] _ _); refine ca_isi (by assumption) (kit_dict _ (by assumption)) ?_) | ((with_reducible show CaD _ _ (Value.builtin "max") _ _ _); refine ca_max2 rfl ?_) | ((with_reducible show CaD _ _ (Value.builtin "min") _ _ _); refine ca_min2 rfl ?_) | ((with_reducible show CaD _ _ (Value.builtin "len") _ _ _); first | refine ca_lenT ?_ | refine ca_lenS (by assumption) ?_ | refine ca_lenSc ?_ | refine ca_lenL (.inl rfl) ?_) | ((with_reducible show CaD _ _ (Value.type "list") _ _ _); refine ca_listT ?_) | ((with_reducible show CaD _ _ (Value.builtin "divmod") _ _ _); refine ca_divmod (by assumption) (by omega) ?_) | walk_at "dca")
    | ((with_reducible show DT _ _ _ _ _ _); first | ((with_reducible show DT _ _ (Expr.BoolOp _ _ _) _ _ _); refine dt_w ?_) | ((with_reducible show DT _ _ (Expr.UnaryOp UnaryOp.Not _ _) _ _ _); refine dt_not ?_) | ((with_reducible show DT _ _ (Expr.Compare _ [_] _ _) _ _ _); refine dt_cmp ?_) | ((with_reducible show DT _ _ (Expr.Compare _ [_, _] _ _) _ _ _); refine dt_chain ?_) | refine dt_val ?_)
    | ((with_reducible show DW _ _ _ _ _ _); first | ((with_reducible show DW _ _ (Expr.BoolOp BoolOp.And [_] _) _ _ _); refine dw_and1 ?_) | ((with_reducible show DW _ _ (Expr.BoolOp BoolOp.Or [_] _) _ _ _); refine dw_or1 ?_) | ((with_reducible show DW _ _ (Expr.BoolOp BoolOp.And _ _) _ _ _); refine dw_and ?_) | ((with_reducible show DW _ _ (Expr.BoolOp BoolOp.Or _ _) _ _ _); refine dw_or ?_))
    | ((with_reducible show DSs _ _ _ _ _ _); first | ((with_reducible show DSs _ _ [] _ _ _); refine dss_nil ?_) | ((with_reducible show DSs _ _ [_] _ _ _); refine dss_one ?_) | ((with_reducible show DSs _ _ (_ :: _) _ _ _); refine dss_cons ?_))
    | ((with_reducible show DS _ _ _ _ _ _); first | ((with_reducible show DS _ _ (Stmt.Return (some _) _) _ _ _); refine ds_ret ?_) | ((with_reducible show DS _ _ (Stmt.If _ _ _ _) _ _ _); refine ds_if ?_) | ((with_reducible show DS _ _ (Stmt.Expr _ _) _ _ _); refine ds_expr ?_) | ((with_reducible show DS _ _ (Stmt.Assign [Expr.Name _ _] _ _) _ _ _); walk_at "dset"))
    | ((with_reducible show DP _ _ none _ _ _); refine dp_none ?_)
    | ((with_reducible show DP _ _ (some _) _ _ _); refine dp_some ?_)
    | ((with_reducible show ∃ d, SV.dat _ = SV.dat d ∧ Fi d ∧ _); refine ⟨_, rfl, by assumption, ?_⟩)
    | ((with_reducible show ∃ i, SV.dat (Dt.int _) = SV.dat (Dt.int i) ∧ _); refine ⟨_, rfl, ?_⟩)
    | ((with_reducible show SlD _ _ (SV.dat (Dt.tup _)) _ _ _ _); refine sl_dT ?_)
    | ((with_reducible show ∃ ds, undat _ = some ds ∧ ds.length ≤ 1000 ∧ _); refine ⟨_, rfl, Nat.le_of_ble_eq_true rfl, ?_⟩)
    | ((with_reducible show ∃ q, SV.at _ = SV.at q ∧ _); refine ⟨_, rfl, ?_⟩)
    | ((with_reducible show ∃ z, SV.dat (Dt.str _) = SV.dat (Dt.str z) ∧ _); refine ⟨_, rfl, ?_⟩)
    | ((with_reducible show IxD _ _ (SV.at _) (SV.dat (Dt.int 0)) _ _); refine ix_pot0 (by assumption) (fun _ _ => ?_))
    | ((with_reducible show IxD _ _ (SV.at _) (SV.dat (Dt.int 1)) _ _); refine ix_pot1 (by assumption) (fun _ _ _ => ?_))
    | ((with_reducible show UnD _ _ (unaryOp UnaryOp.USub) _ _ _); refine un_negI ?_)
    | ((with_reducible show Po.nx _ _ _); dsimp only)
    | ((with_reducible show Po.rt _ _ _); dsimp only))
local macro_rules
  | `(tactic| walk_at "drun") => `(tactic| repeat' (walk_at "dstep"))

def ok0 : List Dt → Prop := fun ds => ds = []
section
variable {X : Cx} {w : Wd} {ρ : List SV} {μ : Mus} {R : SV → Mus → Prop} {e e2 e3 : Expr} {es : List Expr} {x : Str} {p pos : Pos} {j k : Nat}
theorem de_q0 {x : Str} {res : List Dt → Dt → Prop} (O : Own X.prog X.w X.K X.mg X.base x k (QSp ok0 res)) (hr : Room j X.A) (hkj : k ≤ j) (hgd : X.A.guards = some [])
    (ha : DE X w e ρ μ fun r μ1 => ∃ q, r = .at q ∧ μ1 q = some .pot ∧ ∀ d, res [] d → R (.dat d) μ1) (hg : Gl X x := by rfl) (hdb : (x == ("__debug__" : Str)) = false := by decide)
    (he : starEach [e] X.env = (false, eval e X.env) :: starEach [] X.env := by rfl) (hpl : (backTo pos (starEach [] X.env)).any (·.1) = false := by rfl) : DE X w (.Call (.Name x p) [e] [] pos) ρ μ R :=
  de_pot O hr hkj hgd (da_cons (hs := he) (ha.imp fun r μ1 ⟨q, e1, h1, h2⟩ => by
    subst e1
    exact da_nil ⟨q, [], [], rfl, rfl, h1, rfl, h2⟩)) hg hdb he hpl
theorem de_new (O : Own X.prog X.w X.K X.mg X.base x k spNew) (hr : Room j X.A) (hkj : k ≤ j) (hgd : X.A.guards = some []) {q0 : Pos}
    (ha : DE X w e ρ μ fun r μ1 => ∃ p, r = .at p ∧ μ1 p = some .pot ∧ ∀ l q a, Nm l → μ1 q = none → R (.dat (.str (SX.S l))) (μ1.put q a)) (hg : Gl X x := by rfl) (hdb : (x == ("__debug__" : Str)) = false := by decide)
    (he : starEach [e, .List [] q0] X.env = (false, eval e X.env) :: starEach [.List [] q0] X.env := by rfl) (he2 : starEach [.List [] q0] X.env = (false, eval (.List [] q0) X.env) :: starEach [] X.env := by rfl) (hpl : (backTo pos (starEach [.List [] q0] X.env)).any (·.1) = false := by rfl) : DE X w (.Call (.Name x p) [e, .List [] q0] [] pos) ρ μ R :=
  de_own O hr hkj hgd (da_cons (hs := he) (ha.imp fun r μ1 ⟨p, e1, h1, h2⟩ => by
    subst e1
    refine da_cons (hs := he2) (de_lstM (da_nil ⟨[], rfl, by decide, fun q hq0 hw0 => da_nil ⟨⟨p, q, rfl, pot_ne h1 hq0, put_same, fun e => ?_⟩, fun r μ2 h3 => ?_⟩⟩))
    · rw [e, hq0] at h1; cases h1
    · obtain ⟨l, h4, rfl, rfl⟩ := h3 p q rfl
      rw [put_twice]
      exact h2 l q _ h4 hq0)) hg hdb he hpl
end
theorem ints_of : ∀ (acc : List Dt) (lo hi : Int), (∀ d, d ∈ acc → ∃ v, d = .int v ∧ lo ≤ v ∧ v ≤ hi) → ∃ ns : List Int, acc = ns.map Dt.int ∧ ∀ y, y ∈ ns → lo ≤ y ∧ y ≤ hi
  | [], _, _, _ => ⟨[], rfl, nofun⟩
  | d :: acc, lo, hi, h => by
    obtain ⟨ns, e, hl⟩ := ints_of acc lo hi fun d hd => h d (List.mem_cons_of_mem _ hd)
    obtain ⟨c, h1, h2⟩ := h d List.mem_cons_self
    refine ⟨c :: ns, by rw [List.map_cons, ← e, h1], fun y hy => ?_⟩
    rcases List.mem_cons.mp hy with rfl | g
    · exact h2
    · exact hl y g
def spAll : Sp := QSp ok0 fun _ r => r = .bl true
set_option hygiene false in
local macro_rules
  | `(tactic| walk_at "down") => `(tactic| first | ((with_reducible show DE _ _ (Expr.Call (Expr.Name "_law_take" _) _ _ _) _ _ _); refine de_take oTake hr (by decide) hg ?_) | ((with_reducible show DE _ _ (Expr.Call (Expr.Name "_law_label" _) _ _ _) _ _ _); refine de_new oNew hr (by decide) hg ?_) | ((with_reducible show DE _ _ (Expr.Call (Expr.Name "who_text" _) [_] _ _) _ _ _); refine de_pure oWhoText.own hr (by decide) hg ?_) | ((with_reducible show DE _ _ (Expr.Call (Expr.Name "who_text" _) [] _ _) _ _ _); refine de_kwO oWhoText hr (by decide) hg ?_) | ((with_reducible show DE _ _ (Expr.Call (Expr.Name "end_text" _) [_] _ _) _ _ _); refine de_pure oEndText.own hr (by decide) hg ?_) | ((with_reducible show DE _ _ (Expr.Call (Expr.Name "end_text" _) [] _ _) _ _ _); refine de_kwO oEndText hr (by decide) hg ?_) | ((with_reducible show DE _ _ (Expr.Call (Expr.Name "who_of" _) [_] _ _) _ _ _); refine de_ownX oWhoOf takes0 hr (by decide) hg ?_) | ((with_reducible show DE _ _ (Expr.Call (Expr.Name "who_of" _) [] _ _) _ _ _); refine de_kwXO oWhoOf takes0 hr (by decide) hg ?_) | ((with_reducible show DE _ _ (Expr.Call (Expr.Name "_law_spoilt" _) _ _ _) _ _ _); refine de_pot oBent hr (by decide) hg ?_) | ((with_reducible show DE _ _ (Expr.Call (Expr.Name "_law_is_right" _) _ _ _) _ _ _); refine de_p1 oIsRight hr (by decide) hg ?_))
set_option hygiene false in
local macro_rules
  | `(tactic| walk_at "dca") => `(tactic| first | ((with_reducible show CaD _ _ (Value.type "str") _ _ _); first | refine ca_strS ?_ | refine ca_strI (by assumption) ?_) | ((with_reducible show CaD _ _ (Value.type "int") _ _ _); refine ca_intB ?_))
set_option hygiene false in
local macro_rules
  | `(tactic| walk_at "dhook") => `(tactic| ((with_reducible show DE _ _ (Expr.Call (Expr.Attribute _ "join" _) [_] [] _) _ _ _); refine de_join ?_))
section
variable {P : Program} {w : World} {K : PySem.W.Frag} {mg : Str → Option Value} {base : Heap}
abbrev sAll : Stmt := top 27
abbrev nAll : List Str := ["_law_pot_here", "_law_many", "_law_path", "_law_word", "_law_number", "_law_name", "_law_bent", "_law_odd", "_law_k", "_law_place", "_law_thing"]
theorem scAll : FnScope nAll ["_law_pot_here"] (defScope sAll) := ⟨rfl, rfl, rfl, by decide +kernel, rfl, by decide +kernel, by decide +kernel⟩
theorem ok_all {f C : Addr} {fd : FuncData} (F : Fun K "_law_right" "_law_right" sAll f fd) (T : Txt mg) (oTake : Own P w K mg base "_law_take" 1 spTake) (oNew : Own P w K mg base "_law_label" 2 spNew) (oWhoText : OwnK P w K mg base "who_text" 1 "who" spWhoText) (oEndText : OwnK P w K mg base "end_text" 2 "end" spEndText)
    (oWhoOf : OwnX P w K mg base "who_of" 4 ["text"] (spWhoOf C)) (oBent : Own P w K mg base "_law_spoilt" 2 spBent) (oIsRight : Own P w K mg base "_law_is_right" 6 spIsRight) : FnG P w K mg base 7 f fd ["_law_pot_here"] spAll := by
  refine fn_pot F scAll (fun ds e => by rw [e]; rfl) fun cdv A outer s H hr hg w' p ds μ hp e => ?_
  subst e
  obtain ⟨t1, t2, t3, t4, t5, t6, t7, t8, t9, t10, t11, t12, t13, t14, t15, t16, t17, t18⟩ := T
  have hN : nAll.Nodup := by decide +kernel
  refine dss_cons (ds_set 1 hN ?_)
  walk_at "drun"
  refine ⟨hp, ⟨by decide, by decide⟩, fun m hm0 hm1 => ?_⟩
  walk_at "drun"
  refine ⟨hp, ⟨by decide, by decide⟩, fun v hv0 hv1 => ?_⟩
  walk_at "drun"
  refine ix_someL (.inl rfl) (by split <;> decide) (by show _ < ((2 : Nat) : Int); split <;> decide) fun d hd => ?_
  have hmany : ∃ k : Int, d = .int k ∧ 0 ≤ k ∧ k ≤ 198 := by
    simp only [List.mem_cons, List.not_mem_nil, or_false] at hd
    rcases hd with rfl | rfl
    · exact ⟨m, rfl, hm0, by omega⟩
    · exact ⟨198, rfl, by decide, by decide⟩
  obtain ⟨many, rfl, hk0, hk1⟩ := hmany
  clear hd
  walk_at "drun"
  refine ds_set 2 hN ?_
  walk_at "drun"
  refine ⟨hp, fun l q a hl hq => ?_⟩
  have hp' : (μ.put q a) p = some .pot := pot_ne hp hq
  have sub1 : μ.Sub (μ.put q a) := sub_put hq
  generalize μ.put q a = μ1 at hp' sub1 ⊢
  walk_at "drun"
  refine de_lc 8 rfl hN (blkOk_by (N := nAll) (sc := defScope sAll) (by decide +kernel)) ?_
  refine di_range1 ?_ t12
  walk_at "drun"
  refine ⟨_, rfl, by omega, by omega, ?_⟩
  refine lc_some (fun d => ∃ v : Int, d = .int v ∧ 0 ≤ v ∧ v ≤ 11) (by simp [upto]; omega) ?_ ?_
  · intro d hd w2 k
    walk_at "drun"
    refine ⟨hp', ⟨by decide, by decide⟩, fun v hv0 hv1 => ?_⟩
    exact ⟨_, rfl, ⟨v, rfl, hv0, by omega⟩, rfl⟩
  intro acc hacc hT
  obtain ⟨ns, rfl, hns⟩ := ints_of acc 0 11 hT
  have hln : ns.length ≤ 198 := by
    simp [upto] at hacc
    omega
  refine op_addL (.inl rfl) (.inl rfl) (small_ok (by simp; omega)) ?_
  rw [show ([Dt.str (SX.S l)] ++ ns.map Dt.int : List Dt) = .str (SX.S l) :: ns.map .int from rfl]
  walk_at "drun"
  refine ca_tupL (.inl rfl) ?_
  have hX := whoX_word hl hns
  have hP := whoP_word hl hns
  have hA := word_as hl hns hln
  have hW := (path_wt hl hns).fine (by omega)
  have hparts := parts_in hl hns
  have hAc : Ac 602 (SX.S (wordL l ns)) := ⟨_, rfl, hA⟩
  walk_at "drun"
  refine ds_set 3 hN ?_
  walk_at "drun"
  have hA' : As 640 (wordL l ns) := ⟨by have := hA.1; omega, hA.2⟩
  have hlen8 := hl.2.1
  have ePath : Dt.tup (.str (SX.S l) :: ns.map .int) = pathD l ns := rfl
  refine ix_dT (atI_head _ _) ?_
  walk_at "drun"
  refine de_lc 9 rfl hN (blkOk_by (N := nAll) (sc := defScope sAll) (by decide +kernel)) ?_
  refine di_tup ?_
  walk_at "drun"
  rw [cut_tail]
  refine ⟨_, rfl, lc_map (fun d => match d with | .int y => .str (SX.S (46 :: dg y)) | _ => .non) (by simp; omega) ?_ ?_⟩
  · intro d hd w2 k
    obtain ⟨y, hy, rfl⟩ := List.mem_map.mp hd
    have hy2 := hns y hy
    have hi := log_small hy2.1 hy2.2
    walk_at "drun"
    rw [str_dg hy2.1]
    have h3 := (dg_facts hy2.1 hy2.2).2.2.1
    have e1 : ("." : Str).length = 1 := rfl
    refine op_addS (small_ok (by rw [e1, SX.S_len]; omega)) ?_
    have e2 : ("." : Str) ++ SX.S (dg y) = SX.S (46 :: dg y) := SX.S_cat [46] _
    rw [e2]
    exact ⟨rfl, rfl⟩
  refine ⟨ns.map fun y => SX.S (46 :: dg y), .inl (by rw [List.map_map, List.map_map]; rfl), ?_, ?_⟩
  · have hsum : ∀ ns : List Int, (∀ y, y ∈ ns → 0 ≤ y ∧ y ≤ 11) → ((ns.map fun y => SX.S (46 :: dg y)).map (·.length)).sum ≤ 3 * ns.length := by
      intro ns
      induction ns with
      | nil => intro _; simp
      | cons n ns ih =>
        intro h
        have h1 := ih fun y hy => h y (List.mem_cons_of_mem _ hy)
        have h2 := h n List.mem_cons_self
        have h3 := (dg_facts h2.1 h2.2).2.2.1
        rw [List.map_cons, List.map_cons, List.sum_cons, SX.S_len, List.length_cons, List.length_cons]
        omega
    have := hsum ns hns
    have e0 : ("" : Str).length = 0 := rfl
    rw [e0, List.length_map]
    omega
  have eJ : Txt.join "" (ns.map fun y => SX.S (46 :: dg y)) = SX.S (fl ns) := by
    have e : (ns.map fun y => SX.S (46 :: dg y)) = (ns.map fun y => 46 :: dg y).map SX.S := by rw [List.map_map]; rfl
    rw [e]
    exact (SX.join_S [] _).trans (by rw [joinL_nil]; rfl)
  rw [eJ]
  have hfl := (fl_len ns hns).1
  refine op_addS (small_ok (by rw [SX.S_len, SX.S_len]; omega)) ?_
  have eW : SX.S l ++ SX.S (fl ns) = SX.S (wordL l ns) := SX.S_cat _ _
  rw [eW]
  walk_at "drun"
  refine ⟨_, rfl, ⟨_, rfl, by simp; omega, hparts⟩, ?_⟩
  rintro _ ⟨ws, e, rfl⟩
  cases e
  rw [hX]
  walk_at "drun"
  refine ⟨_, rfl, ⟨_, rfl, by simp; omega, hparts⟩, ?_⟩
  rintro _ ⟨ws, e, rfl⟩
  cases e
  rw [hX]
  walk_at "drun"
  refine ⟨⟨_, rfl, .inl ⟨_, rfl, hA'⟩⟩, ?_, ?_⟩
  rotate_left
  · rintro ⟨d', e, hx⟩
    cases e
    rw [hP] at hx
    cases hx
  rintro r μ2 ⟨d', v2, e, hv2, rfl, rfl⟩
  cases e
  rw [hP] at hv2
  cases hv2
  walk_at "drun"
  refine ⟨⟨_, rfl, .inl ⟨_, rfl, hA'⟩⟩, ?_, ?_⟩
  rotate_left
  · rintro ⟨d', e, hx⟩
    cases e
    rw [hP] at hx
    cases hx
  rintro r μ2 ⟨d', v2, e, hv2, rfl, rfl⟩
  cases e
  rw [hP] at hv2
  cases hv2
  walk_at "drun"
  refine ca_repr hr hg (four_shown (ac_up hAc (by decide)) hW) ?_
  walk_at "drun"
  refine ca_repr hr hg (four_shown (ac_up hAc (by decide)) hW) ?_
  refine op_neSame ?_
  walk_at "drun"
  refine ds_par 4 5 rfl hN ?_
  walk_at "drun"
  refine ⟨hp', ⟨by decide, by decide⟩, fun num hn0 hn1 => ?_⟩
  walk_at "drun"
  refine ⟨hp', fun l2 q2 a2 hl2 hq2 => ?_⟩
  have hp2 : (μ2.put q2 a2) p = some .pot := pot_ne hp' hq2
  have sub2 : μ.Sub (μ2.put q2 a2) := sub1.trans (sub_put hq2)
  generalize μ2.put q2 a2 = μ3 at hp2 sub2 ⊢
  walk_at "drun"
  refine ⟨_, _, rfl, ?_⟩
  have hnum : Part (.int num) := .inr ⟨num, rfl, hn0, by omega⟩
  have hname : Part (.str (SX.S l2)) := .inl ⟨l2, rfl, hl2.2.1, fun c hc => by have := hl2.2.2 c hc; omega⟩
  have hnx : partX (.int num) = SX.S (dg num) := str_dg hn0
  have hlog := log_small hn0 (by omega : num ≤ 11)
  have hdg := dg_facts hn0 (by omega : num ≤ 11)
  have hl28 := hl2.2.1
  have ec : (":" : Str).length = 1 := rfl
  walk_at "drun"
  refine ⟨_, rfl, ⟨_, _, rfl, by simp; omega, hparts, hnum⟩, ?_⟩
  rintro _ ⟨ws, d, e, rfl⟩
  cases e
  rw [hX, hnx]
  walk_at "drun"
  refine ⟨_, rfl, ⟨_, _, rfl, by simp, nofun, hname⟩, ?_⟩
  rintro _ ⟨ws, d, e, rfl⟩
  cases e
  have eB : whoX [] ++ ":" ++ partX (.str (SX.S l2)) = ":" ++ SX.S l2 := by
    show (whoX [] ++ ":") ++ SX.S l2 = _
    have : whoX [] ++ ":" = ":" := by decide +kernel
    rw [this]
  rw [eB]
  walk_at "drun"
  refine op_addS (small_ok (by rw [SX.S_len, ec]; have := hA.1; omega)) ?_
  walk_at "drun"
  rw [str_dg hn0]
  have hAc2 : Ac 603 (SX.S (wordL l ns) ++ ":") := ac_app hAc (ac_lit 1 ":" (by decide))
  have hDg : Ac 2 (SX.S (dg num)) := ⟨_, rfl, hdg.2.2.1, hdg.2.2.2⟩
  have hNm : Ac 8 (SX.S l2) := ⟨_, rfl, hl28, fun c hc => by have := hl2.2.2 c hc; omega⟩
  refine op_addA hAc2 hDg (by decide) ?_
  walk_at "drun"
  refine op_addA (ac_lit 1 ":" (by decide)) hNm (by decide) ?_
  walk_at "drun"
  have hok : ∀ z ∈ [SX.S (wordL l ns) ++ ":" ++ SX.S (dg num), ":" ++ SX.S l2], PyData.strOk z = true := by
    have ok : ∀ {n : Nat} {z : Str}, Ac n z → PyData.strOk z = true := by
      rintro n z ⟨l, rfl, _, h⟩
      show (SX.S l).cps.all (· < 0x110000) = true
      rw [← Array.all_toList]
      exact List.all_eq_true.mpr fun c hc => decide_eq_true (by have := h c hc; omega)
    intro z hz
    simp only [List.mem_cons, List.not_mem_nil, or_false] at hz
    rcases hz with rfl | rfl
    · exact ok (ac_app hAc2 hDg)
    · exact ok (ac_app (ac_lit 1 ":" (by decide)) hNm)
  refine op_neDt hr (noDic_strs _ hok) (noDic_strs _ hok) (shaped_strs _ hok) (shaped_strs _ hok) ?_
  have eqs : ∀ a b : Str, PyData.eqv (toPy (.lst [.str a, .str b])) (toPy (.lst [.str a, .str b])) = true := fun a b => by
    simp [toPy, toPyA, PyData.eqv, PyData.eqvAll]
  rw [eqs]
  walk_at "drun"
  refine ds_set 6 hN ?_
  walk_at "drun"
  have hA620 : As 620 (wordL l ns) := ⟨by have := hA.1; omega, hA.2⟩
  refine ⟨p, _, _, rfl, rfl, hp2, ⟨_, rfl, hA620⟩, ?_⟩
  intro d hres
  obtain ⟨z, rfl, lb, rfl, hb1, hb2⟩ := hres _ rfl
  have hB : As 620 lb := ⟨by have := hA.1; omega, hb2⟩
  walk_at "drun"
  refine ds_set 7 hN ?_
  walk_at "drun"
  refine de_lc 10 rfl hN (blkOk_by (N := nAll) (sc := defScope sAll) (by decide +kernel)) ?_
  refine di_lst ?_
  walk_at "drun"
  refine ⟨p, _, _, rfl, rfl, hp2, ⟨_, rfl, hB⟩, ?_⟩
  intro d hres2
  obtain ⟨z, rfl, lc, rfl, hc1, hc2⟩ := hres2 _ rfl
  walk_at "drun"
  refine op_addL (.inl rfl) (.inl rfl) (small_ok (Nat.le_of_ble_eq_true rfl)) ?_
  have wS : ∀ {l : List Nat}, l.length ≤ 640 → (∀ c, c ∈ l → c < 128) → Ww (.str (SX.S l)) := fun h1 h2 => .inl ⟨_, rfl, h1, h2⟩
  have wL : ∀ s : Str, (decide (s.cps.toList.length ≤ 640) && s.cps.toList.all fun c => decide (c < 128)) = true → Ww (.str s) := fun s h => by
    obtain ⟨l, e, h1⟩ := ac_lit 640 s h
    exact .inl ⟨l, by rw [e], h1⟩
  refine ⟨_, rfl, lc_map (fun _ => .bl true) (show (18 : Nat) ≤ 100000 by decide) ?_ ?_⟩
  · intro d hd w2 k
    have hWw : Ww d := by
      simp only [List.cons_append, List.nil_append, List.mem_cons, List.not_mem_nil, or_false] at hd
      rcases hd with rfl | rfl | rfl | rfl | rfl | rfl | rfl | rfl | rfl | rfl | rfl | rfl | rfl | rfl | rfl | rfl | rfl | rfl
      · exact wS (by have := hB.1; omega) hB.2
      · exact wS (by have := hA.1; omega) hc2
      · exact wS hA'.1 hA'.2
      · exact .inr ⟨rfl, rfl⟩
      · exact .inr ⟨rfl, rfl⟩
      · exact .inr ⟨rfl, rfl⟩
      · exact .inr ⟨rfl, rfl⟩
      · exact wL _ (by decide)
      · exact .inr ⟨rfl, rfl⟩
      · exact .inr ⟨rfl, rfl⟩
      · exact .inr ⟨rfl, rfl⟩
      · exact .inr ⟨rfl, rfl⟩
      · exact .inr ⟨rfl, rfl⟩
      · exact .inr ⟨rfl, rfl⟩
      · exact wL _ (by decide)
      · exact wL _ (by decide)
      · exact wL _ (by decide)
      · exact wL _ (by decide)
    walk_at "drun"
    refine ⟨_, rfl, hWw, ?_⟩
    exact ⟨rfl, rfl⟩
  generalize ([.str (SX.S lb), .str (SX.S lc), .str (SX.S (wordL l ns))] ++ _ : List Dt) = zs
  walk_at "drun"
  refine ca_all rfl (bs := zs.map fun _ => true) (.inl (by rw [List.map_map]; rfl)) ?_
  have e9 : (zs.map fun _ => true).all id = true := by simp
  rw [e9]
  exact ⟨_, rfl, rfl, sub2⟩
end
end K18

set_option Elab.async false
set_option linter.all false
set_option maxRecDepth 100000
set_option maxHeartbeats 1000000
namespace K18
open PySem PySem.Spec PyProof.Rows L2 Dat
local macro_rules
  | `(tactic| walk_at "down") => `(tactic| fail "none")
local macro_rules
  | `(tactic| walk_at "dset") => `(tactic| fail "none")
local macro_rules
  | `(tactic| walk_at "dhook") => `(tactic| fail "none")
local macro_rules
  | `(tactic| walk_at "dca") => `(tactic| fail "none")
local macro_rules
  | `(tactic| walk_at "dlst") => `(tactic| refine de_lst ?_)
local macro_rules
  | `(tactic| walk_at "dstep") => `(tactic| first
    | ((with_reducible show DE _ _ _ _ _ _); first | ((with_reducible show DE _ _ (Expr.Name _ _) _ _ _); first | ((with_reducible show DE _ _ (Expr.Name "int" _) _ _ _); refine de_ty_int (by assumption) ?_) | ((with_reducible show DE _ _ (Expr.Name "str" _) _ _ _); refine de_ty_str (by assumption) ?_) | ((with_reducible show DE _ _ (Expr.Name "bool" _) _ _ _); refine de_ty_bool (by assumption) ?_) | ((with_reducible show DE _ _ (Expr.Name "tuple" _) _ _ _); refine de_ty_tuple (by assumption) ?_) | ((with_reducible show DE _ _ (Expr.Name "list" _) _ _ _); refine de_ty_list (by assumption) ?_) | ((with_reducible show DE _ _ (Expr.Name "dict" _) _ _ _); refine de_ty_dict (by assumption) ?_) | refine de_nm rfl ?_ | refine de_globI (by assumption) ?_) | ((with_reducible show DE _ _ (Expr.Constant _ _ _) _ _ _); first | refine de_int ?_ | refine de_str ?_ | refine de_bl ?_ | refine de_non ?_) | ((with_reducible show DE _ _ (Expr.Call (Expr.Name _ _) _ _ _) _ _ _); first | ((with_reducible show DE _ _ (Expr.Call (Expr.Name "isinstance" _) _ _ _) _ _ _); refine de_isinstance ?_ (by assumption)) | ((with_reducible show DE _ _ (Expr.Call (Expr.Name "len" _) _ _ _) _ _ _); refine de_len ?_ (by assumption)) | ((with_reducible show DE _ _ (Expr.Call (Expr.Name "max" _) _ _ _) _ _ _); refine de_max ?_ (by assumption)) | ((with_reducible show DE _ _ (Expr.Call (Expr.Name "min" _) _ _ _) _ _ _); refine de_min ?_ (by assumption)) | ((with_reducible show DE _ _ (Expr.Call (Expr.Name "all" _) _ _ _) _ _ _); refine de_all ?_ (by assumption)) | ((with_reducible show DE _ _ (Expr.Call (Expr.Name "repr" _) _ _ _) _ _ _); refine de_repr ?_ (by assumption)) | ((with_reducible show DE _ _ (Expr.Call (Expr.Name "divmod" _) _ _ _) _ _ _); refine de_divmod ?_ (by assumption)) | ((with_reducible show DE _ _ (Expr.Call (Expr.Name "list" _) _ _ _) _ _ _); refine de_clist ?_ (by assumption)) | ((with_reducible show DE _ _ (Expr.Call (Expr.Name "tuple" _) _ _ _) _ _ _); refine de_ctuple ?_ (by assumption)) | ((with_reducible show DE _ _ (Expr.Call (Expr.Name "int" _) _ _ _) _ _ _); refine de_cint ?_ (by assumption)) | ((with_reducible show DE _ _ (Expr.Call (Expr.Name "str" _) _ _ _) _ _ _); refine de_cstr ?_ (by assumption)) | walk_at "down") | ((with_reducible show DE _ _ (Expr.BinOp _ _ _ _) _ _ _); refine de_op ?_) | ((with_reducible show DE _ _ (Expr.Compare _ [_] _ _) _ _ _); refine de_cmp ?_) | ((with_reducible show DE _ _ (Expr.Compare _ [_, _] _ _) _ _ _); refine de_chain ?_) | ((with_reducible show DE _ _ (Expr.Subscript _ (Expr.Slice _ _ _ _) _) _ _ _); refine de_slice ?_) | ((with_reducible show DE _ _ (Expr.Subscript _ _ _) _ _ _); refine de_ix ?_) | ((with_reducible show DE _ _ (Expr.BoolOp _ [_] _) _ _ _); refine de_one ?_) | ((with_reducible show DE _ _ (Expr.BoolOp BoolOp.And _ _) _ _ _); refine de_and ?_) | ((with_reducible show DE _ _ (Expr.BoolOp BoolOp.Or _ _) _ _ _); refine de_or ?_) | ((with_reducible show DE _ _ (Expr.UnaryOp UnaryOp.Not _ _) _ _ _); refine de_not ?_) | ((with_reducible show DE _ _ (Expr.UnaryOp _ _ _) _ _ _); refine de_un ?_) | ((with_reducible show DE _ _ (Expr.IfExp _ _ _ _) _ _ _); refine de_ifx ?_) | ((with_reducible show DE _ _ (Expr.Tuple _ _ _) _ _ _); refine de_tup ?_) | ((with_reducible show DE _ _ (Expr.List _ _) _ _ _); walk_at "dlst") | ((with_reducible show DE _ _ (Expr.Dict [] [] _) _ _ _); refine de_dict0 ?_) | walk_at "dhook")
    | ((with_reducible show DA _ _ _ _ _ _); first | ((with_reducible show DA _ _ [] _ _ _); refine da_nil ?_) | ((with_reducible show DA _ _ (_ :: _) _ _ _); refine da_cons ?_))
    | ((with_reducible show BoolR _ _); refine ⟨_, rfl, ?_⟩)
    | ((with_reducible show (_ = true → _) ∧ (_ = false → _)); (refine ⟨fun h => ?_, fun h => ?_⟩ <;> try (exact Bool.noConfusion h)))
    | ((with_reducible show OpD _ _ _ _ _ _ _); first | ((with_reducible show OpD _ _ (binaryOp Operator.Add) _ _ _ _); first | refine op_addI ?_ | refine op_addT ?_) | ((with_reducible show OpD _ _ (binaryOp Operator.Sub) _ _ _ _); refine op_subI ?_) | ((with_reducible show OpD _ _ (binaryOp Operator.Mod) _ _ _ _); refine op_modI (by first | decide | assumption) ?_) | ((with_reducible show OpD _ _ (binaryOp Operator.Mult) _ _ _ _); refine op_mulI (by first | exact .inr (by decide) | exact .inl (by decide) | (exact .inl (by omega))) ?_) | ((with_reducible show OpD _ _ (binaryOp Operator.Pow) _ _ _ _); refine op_powI (by decide) (by decide) (by decide) ?_) | ((with_reducible show OpD _ _ (binaryOp Operator.FloorDiv) _ _ _ _); refine op_fdivI (by decide) (by decide) ?_) | ((with_reducible show OpD _ _ (compareOp CmpOp.Lt) _ _ _ _); refine op_ltI ?_) | ((with_reducible show OpD _ _ (compareOp CmpOp.LtE) _ _ _ _); first | refine op_leI ?_ | refine op_leS ?_) | ((with_reducible show OpD _ _ (compareOp CmpOp.Gt) _ _ _ _); refine op_gtI ?_) | ((with_reducible show OpD _ _ (compareOp CmpOp.GtE) _ _ _ _); refine op_geI ?_) | ((with_reducible show OpD _ _ (compareOp CmpOp.Eq) _ _ _ _); first | refine op_eqI ?_ | refine op_eqS ?_) | ((with_reducible show OpD _ _ (compareOp CmpOp.NotEq) _ _ _ _); first | refine op_neI ?_ | refine op_neS ?_))
    | ((with_reducible show CaD _ _ _ _ _ _); first | ((with_reducible show CaD _ _ (Value.builtin "isinstance") [_, SV.ty "int"] _ _); refine ca_isi (by assumption) (kit_int _ (by assumption)) ?_) | ((with_reducible show CaD _ _ (Value.builtin "isinstance") [_, SV.ty "bool"] _ _); refine ca_isi (by assumption) (kit_bool _ (by assumption)) ?_) | ((with_reducible show CaD _ _ (Value.builtin "isinstance") [_, SV.ty "str"] _ _); refine ca_isi (by assumption) (kit_str _ (by assumption)) ?_) | ((with_reducible show CaD _ _ (Value.builtin "isinstance") [_, SV.ty "tuple"] _ _); refine ca_isi (by assumption) (kit_tuple _ (by assumption)) ?_) | ((with_reducible show CaD _ _ (Value.builtin "isinstance") [_, SV.ty "list"] _ _); refine ca_isi (by assumption) (kit_list _ (by assumption)) ?_) | ((with_reducible show CaD _ _ (Value.builtin "isinstance") [_, SV.ty "dict"] _ _); refine ca_isi (by assumption) (kit_dict _ (by assumption)) ?_) | ((with_reducible show CaD _ _ (Value.builtin "max") _ _ _); refine ca_max2 rfl ?_) | ((with_reducible show CaD _ _ (Value.builtin "min") _ _ _); refine ca_min2 rfl ?_) | ((with_reducible show CaD _ _ (Value.builtin "len") _ _ _); first | refine ca_lenT ?_ | refine ca_lenS (by assumption) ?_ | refine ca_lenSc ?_ | refine ca_lenL (.inl rfl) ?_) | ((with_reducible show CaD _ _ (Value.type "list") _ _ _); refine ca_listT ?_) | ((with_reducible show CaD _ _ (Value.builtin "divmod") _ _ _); refine ca_divmod (by assumption) (by omega) ?_) | walk_at "dca")
    | ((with_reducible show DT _ _ _ _ _ _); first | ((with_reducible show DT _ _ (Expr.BoolOp _ _ _) _ _ _); refine dt_w ?_) | ((with_reducible show DT _ _ (Expr.UnaryOp UnaryOp.Not _ _) _ _ _); refine dt_not ?_) | ((with_reducible show DT _ _ (Expr.Compare _ [_] _ _) _ _ _); refine dt_cmp ?_) | ((with_reducible show DT _ _ (Expr.Compare _ [_, _] _ _) _ _ _); refine dt_chain ?_) | refine dt_val ?_)
    | ((with_reducible show DW _ _ _ _ _ _); first | ((with_reducible show DW _ _ (Expr.BoolOp BoolOp.And [_] _) _ _ _); refine dw_and1 ?_) | ((with_reducible show DW _ _ (Expr.BoolOp BoolOp.Or [_] _) _ _ _); refine dw_or1 ?_) | ((with_reducible show DW _ _ (Expr.BoolOp BoolOp.And _ _) _ _ _); refine dw_and ?_) | ((with_reducible show DW _ _ (Expr.BoolOp BoolOp.Or _ _) _ _ _); refine dw_or ?_))
    | ((with_reducible show DSs _ _ _ _ _ _); first | ((with_reducible show DSs _ _ [] _ _ _); refine dss_nil ?_) | ((with_reducible show DSs _ _ [_] _ _ _); refine dss_one ?_) | ((with_reducible show DSs _ _ (_ :: _) _ _ _); refine dss_cons ?_))
    | ((with_reducible show DS _ _ _ _ _ _); first | ((with_reducible show DS _ _ (Stmt.Return (some _) _) _ _ _); refine ds_ret ?_) | ((with_reducible show DS _ _ (Stmt.If _ _ _ _) _ _ _); refine ds_if ?_) | ((with_reducible show DS _ _ (Stmt.Expr _ _) _ _ _); refine ds_expr ?_) | ((with_reducible show DS _ _ (Stmt.Assign [Expr.Name _ _] _ _) _ _ _); walk_at "dset"))
    | ((with_reducible show DP _ _ none _ _ _); refine dp_none ?_)
    | ((with_reducible show DP _ _ (some _) _ _ _); refine dp_some ?_)
    | ((with_reducible show ∃ d, SV.dat _ = SV.dat d ∧ Fi d ∧ _); refine ⟨_, rfl, by assumption, ?_⟩)
    | ((with_reducible show ∃ i, SV.dat (Dt.int _) = SV.dat (Dt.int i) ∧ _); refine ⟨_, rfl, ?_⟩)
    | ((with_reducible show SlD _ _ (SV.dat (Dt.tup _)) _ _ _ _); refine sl_dT ?_)
    | ((with_reducible show ∃ ds, undat _ = some ds ∧ ds.length ≤ 1000 ∧ _); refine ⟨_, rfl, Nat.le_of_ble_eq_true rfl, ?_⟩)
    | ((with_reducible show ∃ q, SV.at _ = SV.at q ∧ _); refine ⟨_, rfl, ?_⟩)
    | ((with_reducible show ∃ z, SV.dat (Dt.str _) = SV.dat (Dt.str z) ∧ _); refine ⟨_, rfl, ?_⟩)
    | ((with_reducible show IxD _ _ (SV.at _) (SV.dat (Dt.int 0)) _ _); refine ix_pot0 (by assumption) (fun _ _ => ?_))
    | ((with_reducible show IxD _ _ (SV.at _) (SV.dat (Dt.int 1)) _ _); refine ix_pot1 (by assumption) (fun _ _ _ => ?_))
    | ((with_reducible show UnD _ _ (unaryOp UnaryOp.USub) _ _ _); refine un_negI ?_)
    | ((with_reducible show Po.nx _ _ _); dsimp only)
    | ((with_reducible show Po.rt _ _ _); dsimp only))
local macro_rules
  | `(tactic| walk_at "drun") => `(tactic| repeat' (walk_at "dstep"))

/-! ### the law -/
def spLaw (K : PySem.W.Frag) : Sp := GSp (fun rs _ => ∃ a ns, rs = [.sc K a ns] ∧ ns.length ≤ 63) fun rs μ r μ' => r = .dat (.bl true)
set_option hygiene false in
local macro_rules
  | `(tactic| walk_at "down") => `(tactic| first | ((with_reducible show DE _ _ (Expr.Call (Expr.Name "_law_right" _) _ _ _) _ _ _); refine de_q0 oAll hr (by decide) hg ?_) | ((with_reducible show DE _ _ (Expr.Call (Expr.Name "_law_pot" _) _ _ _) _ _ _); refine de_own oPot hr (by decide) hg ?_))
section
variable {P : Program} {w : World} {K : PySem.W.Frag} {mg : Str → Option Value} {base : Heap}
abbrev sLaw : Stmt := top 28
abbrev nLaw : List Str := ["_law_script", "_law_k"]
theorem scLaw : FnScope nLaw ["_law_script"] (defScope sLaw) := ⟨rfl, rfl, rfl, by decide +kernel, rfl, by decide +kernel, by decide +kernel⟩
theorem ok_law {f : Addr} {fd : FuncData} (F : Fun K "law" "law" sLaw f fd) (T : Txt mg) (oPot : Own P w K mg base "_law_pot" 1 (spPot K)) (oAll : Own P w K mg base "_law_right" 7 spAll) : FnG P w K mg base 8 f fd ["_law_script"] (spLaw K) := by
  refine fn_ok F scLaw (fun rs μ ⟨a, ns, e, _⟩ => by rw [e]; rfl) fun cdv A outer s H hr hg w' rs μ ⟨a, ns, e, hns⟩ => ?_
  subst e
  obtain ⟨t1, t2, t3, t4, t5, t6, t7, t8, t9, t10, t11, t12, t13, t14, t15, t16, t17, t18⟩ := T
  have hN : nLaw.Nodup := by decide +kernel
  refine dss_one ?_
  walk_at "drun"
  refine de_lc 1 rfl hN (blkOk_by (N := nLaw) (sc := defScope sLaw) (by decide +kernel)) ?_
  refine di_range1 ?_ t12
  walk_at "drun"
  refine ⟨_, rfl, by omega, by omega, ?_⟩
  have hu : (upto 0 (max 1 (min 8 (ns.length : Int))).toNat).length ≤ 8 := by simp [upto]; omega
  refine ⟨by omega, fun n acc μ' => acc = (List.replicate n true).map Dt.bl, rfl, ?_, ?_⟩
  · rintro n acc d μ2 hd _ rfl w2 k
    have h1 := (List.getElem?_eq_some_iff.mp hd).1
    have hdv : d = .int (0 + (n : Int)) := by
      unfold upto at hd
      rw [List.getElem?_map, List.getElem?_range (by simpa [upto] using h1)] at hd
      exact (Option.some.inj hd).symm
    subst hdv
    refine dq_nil ⟨fun _ kc => ?_, nofun⟩
    walk_at "drun"
    refine ⟨⟨a, ns, _, rfl, by omega, by omega, by omega⟩, ?_⟩
    rintro r μ3 ⟨p, rfl, hq0, rfl⟩
    refine ⟨p, rfl, put_same, ?_⟩
    rintro d rfl
    refine ⟨_, rfl, ?_⟩
    show _ = (List.replicate (n + 1) true).map Dt.bl
    rw [List.replicate_succ', List.map_append]
    rfl
  · rintro acc μ' rfl hlen
    walk_at "drun"
    refine ca_all rfl (.inl rfl) ?_
    have e : ∀ n : Nat, (List.replicate n true).all id = true := fun n => by simp
    rw [e]
    exact ⟨_, Mus.Sub.refl _, rfl⟩
end
end K18

set_option Elab.async false
set_option linter.all false
set_option maxRecDepth 100000
namespace K18
open PySem L2 Dat
section
variable {K : PySem.W.Frag} {t : Value} {C D : Addr} {b : Bool}
theorem kit_cls (h1 : PySem.W.isClsIn K D = true) (h2 : PySem.W.typeIn K (.ref D) = some (.type "type")) (h3 : PySem.W.subIn K t (.ref D) = some b) : PySem.W.kitCls K t (.ref D) = some b := by
  unfold PySem.W.kitCls
  have e : ((PySem.W.clsIn K D).isSome && PySem.W.typeIn K (.ref D) == some (.type "type")) = true := by
    have h1' : (PySem.W.clsIn K D).isSome = true := h1
    rw [h1', h2]
    rfl
  show (if _ then _ else _) = _
  rw [if_pos e]
  exact h3
theorem exm_ofF (h0 : PySem.W.subIn K (.ref D) (.type "BaseException") = some true) (h1 : PySem.W.isClsIn K D = true) (h2 : PySem.W.typeIn K (.ref D) = some (.type "type")) (h3 : PySem.W.subIn K t (.ref D) = some b) : PySem.W.exmOne K t (.ref D) = some b := by
  unfold PySem.W.exmOne
  rw [h0]
  show (if (some true == some true) = true then _ else _) = _
  rw [if_pos (by decide)]
  exact kit_cls h1 h2 h3
theorem kit_yes (h1 : PySem.W.isClsIn K D = true) (h2 : PySem.W.typeIn K (.ref D) = some (.type "type")) (h3 : PySem.W.subIn K t (.ref D) = some true) : PySem.W.kitOne K t (.ref D) = some true := by
  unfold PySem.W.kitOne
  split
  · rfl
  · exact kit_cls h1 h2 h3
theorem kit_tyV (h3 : PySem.W.subIn K t (.type "ValueError") = some true) : PySem.W.kitOne K t (.type "ValueError") = some true := by
  unfold PySem.W.kitOne
  split
  · rfl
  · unfold PySem.W.kitCls
    show (if _ then _ else _) = _
    rw [if_pos (by decide +kernel)]
    exact h3
theorem kit_no (h1 : PySem.W.isClsIn K D = true) (h2 : PySem.W.typeIn K (.ref D) = some (.type "type")) (h4 : PySem.W.subIn K (.ref C) (.ref C) = some true) (h3 : PySem.W.subIn K (.ref C) (.ref D) = some false) : PySem.W.kitOne K (.ref C) (.ref D) = some false := by
  unfold PySem.W.kitOne
  split
  · rename_i h
    have e : C = D := by
      have z := eq_of_beq h
      injection z
    rw [e] at h4
    rw [e, h4] at h3
    cases h3
  · exact kit_cls h1 h2 h3
end

theorem all_mk {l : PySem.W.OpenLaw} {w : World} {K : PySem.W.Frag} {h : Heap} {mg : Str → Option Value} {fa FE WE C f0 f1 f2 f3 f4 f5 f6 f7 f8 f9 f10 f11 f12 f13 f14 f15 f16 f17 : Addr} (X : K.In h) (G : h.Ns mainGlobals mg) (hfa : mg "law" = some (.ref fa))
    {od0 an0 od1 an1 od2 an2 od3 an3 od4 an4 od5 an5 od6 an6 od7 an7 od8 an8 od9 an9 od10 an10 od11 an11 od12 an12 od13 an13 od14 an14 od15 an15 od16 an16 od17 an17 : Option Addr} {sl0 sl1 sl2 sl3 sl4 sl5 sl6 sl7 sl8 sl9 sl10 sl11 sl12 sl13 sl14 sl15 sl16 sl17 : Array (Option Value)} {oc0 kV0 dc0 pm0 cd0 ct0 oc1 kV1 dc1 pm1 cd1 ct1 oc2 kV2 dc2 pm2 cd2 ct2 oc3 kV3 dc3 pm3 cd3 ct3 oc4 kV4 dc4 pm4 cd4 ct4 oc5 kV5 dc5 pm5 cd5 ct5 oc6 kV6 dc6 pm6 cd6 ct6 oc7 kV7 dc7 pm7 cd7 ct7 oc8 kV8 dc8 pm8 cd8 ct8 oc9 kV9 dc9 pm9 cd9 ct9 oc10 kV10 dc10 pm10 cd10 ct10 oc11 kV11 dc11 pm11 cd11 ct11 oc12 kV12 dc12 pm12 cd12 ct12 oc13 kV13 dc13 pm13 cd13 ct13 oc14 kV14 dc14 pm14 cd14 ct14 oc15 kV15 dc15 pm15 cd15 ct15 oc16 kV16 dc16 pm16 cd16 ct16 oc17 kV17 dc17 pm17 cd17 ct17 : Value} {tk0 tk1 tk2 : Tok}
    (a0 : PySem.W.nsIn K mainGlobals "is_whole" = some (some (.ref f0)))
    (l0 : K.lookup f0 = some ⟨oc0, od0, .func (PySem.W.fnOf "is_whole" "is_whole" (defArgs sWhole) (defBody sWhole) (defScope sWhole) .none kV0 dc0 pm0 an0 cd0 ct0), sl0⟩)
    (c0 : PySem.W.codeIn K cd0 "is_whole" = true)
    (k0 : PySem.W.keepIn K (.ref f0) = true)
    (a1 : PySem.W.nsIn K mainGlobals "is_name" = some (some (.ref f1)))
    (l1 : K.lookup f1 = some ⟨oc1, od1, .func (PySem.W.fnOf "is_name" "is_name" (defArgs sName) (defBody sName) (defScope sName) .none kV1 dc1 pm1 an1 cd1 ct1), sl1⟩)
    (c1 : PySem.W.codeIn K cd1 "is_name" = true)
    (k1 : PySem.W.keepIn K (.ref f1) = true)
    (a2 : PySem.W.nsIn K mainGlobals "is_place" = some (some (.ref f2)))
    (l2 : K.lookup f2 = some ⟨oc2, od2, .func (PySem.W.fnOf "is_place" "is_place" (defArgs sPlace) (defBody sPlace) (defScope sPlace) .none kV2 dc2 pm2 an2 cd2 ct2), sl2⟩)
    (c2 : PySem.W.codeIn K cd2 "is_place" = true)
    (k2 : PySem.W.keepIn K (.ref f2) = true)
    (a3 : PySem.W.nsIn K mainGlobals "is_who" = some (some (.ref f3)))
    (l3 : K.lookup f3 = some ⟨oc3, od3, .func (PySem.W.fnOf "is_who" "is_who" (defArgs sWho) (defBody sWho) (defScope sWho) .none kV3 dc3 pm3 an3 cd3 ct3), sl3⟩)
    (c3 : PySem.W.codeIn K cd3 "is_who" = true)
    (k3 : PySem.W.keepIn K (.ref f3) = true)
    (a4 : PySem.W.nsIn K mainGlobals "number_of" = some (some (.ref f4)))
    (l4 : K.lookup f4 = some ⟨oc4, od4, .func (PySem.W.fnOf "number_of" "number_of" (defArgs sNum) (defBody sNum) (defScope sNum) .none kV4 dc4 pm4 an4 cd4 ct4), sl4⟩)
    (c4 : PySem.W.codeIn K cd4 "number_of" = true)
    (k4 : PySem.W.keepIn K (.ref f4) = true)
    (a5 : PySem.W.nsIn K mainGlobals "who_text" = some (some (.ref f5)))
    (l5 : K.lookup f5 = some ⟨oc5, od5, .func (PySem.W.fnOf "who_text" "who_text" (defArgs sWhoText) (defBody sWhoText) (defScope sWhoText) .none kV5 dc5 pm5 an5 cd5 ct5), sl5⟩)
    (c5 : PySem.W.codeIn K cd5 "who_text" = true)
    (k5 : PySem.W.keepIn K (.ref f5) = true)
    (a6 : PySem.W.nsIn K mainGlobals "end_text" = some (some (.ref f6)))
    (l6 : K.lookup f6 = some ⟨oc6, od6, .func (PySem.W.fnOf "end_text" "end_text" (defArgs sEndText) (defBody sEndText) (defScope sEndText) .none kV6 dc6 pm6 an6 cd6 ct6), sl6⟩)
    (c6 : PySem.W.codeIn K cd6 "end_text" = true)
    (k6 : PySem.W.keepIn K (.ref f6) = true)
    (a7 : PySem.W.nsIn K mainGlobals "who_of" = some (some (.ref f7)))
    (l7 : K.lookup f7 = some ⟨oc7, od7, .func (PySem.W.fnOf "who_of" "who_of" (defArgs sWhoOf) (defBody sWhoOf) (defScope sWhoOf) .none kV7 dc7 pm7 an7 cd7 ct7), sl7⟩)
    (c7 : PySem.W.codeIn K cd7 "who_of" = true)
    (k7 : PySem.W.keepIn K (.ref f7) = true)
    (a8 : PySem.W.nsIn K mainGlobals "_law_pot" = some (some (.ref f8)))
    (l8 : K.lookup f8 = some ⟨oc8, od8, .func (PySem.W.fnOf "_law_pot" "_law_pot" (defArgs sPot) (defBody sPot) (defScope sPot) .none kV8 dc8 pm8 an8 cd8 ct8), sl8⟩)
    (c8 : PySem.W.codeIn K cd8 "_law_pot" = true)
    (k8 : PySem.W.keepIn K (.ref f8) = true)
    (a9 : PySem.W.nsIn K mainGlobals "_law_take" = some (some (.ref f9)))
    (l9 : K.lookup f9 = some ⟨oc9, od9, .func (PySem.W.fnOf "_law_take" "_law_take" (defArgs sTake) (defBody sTake) (defScope sTake) .none kV9 dc9 pm9 an9 cd9 ct9), sl9⟩)
    (c9 : PySem.W.codeIn K cd9 "_law_take" = true)
    (k9 : PySem.W.keepIn K (.ref f9) = true)
    (a10 : PySem.W.nsIn K mainGlobals "_law_label" = some (some (.ref f10)))
    (l10 : K.lookup f10 = some ⟨oc10, od10, .func (PySem.W.fnOf "_law_label" "_law_label" (defArgs sNew) (defBody sNew) (defScope sNew) .none kV10 dc10 pm10 an10 cd10 ct10), sl10⟩)
    (c10 : PySem.W.codeIn K cd10 "_law_label" = true)
    (k10 : PySem.W.keepIn K (.ref f10) = true)
    (a11 : PySem.W.nsIn K mainGlobals "_law_is_label" = some (some (.ref f11)))
    (l11 : K.lookup f11 = some ⟨oc11, od11, .func (PySem.W.fnOf "_law_is_label" "_law_is_label" (defArgs sLabel) (defBody sLabel) (defScope sLabel) .none kV11 dc11 pm11 an11 cd11 ct11), sl11⟩)
    (c11 : PySem.W.codeIn K cd11 "_law_is_label" = true)
    (k11 : PySem.W.keepIn K (.ref f11) = true)
    (a12 : PySem.W.nsIn K mainGlobals "_law_who_told" = some (some (.ref f12)))
    (l12 : K.lookup f12 = some ⟨oc12, od12, .func (PySem.W.fnOf "_law_who_told" "_law_who_told" (defArgs sTold) (defBody sTold) (defScope sTold) .none kV12 dc12 pm12 an12 cd12 ct12), sl12⟩)
    (c12 : PySem.W.codeIn K cd12 "_law_who_told" = true)
    (k12 : PySem.W.keepIn K (.ref f12) = true)
    (a13 : PySem.W.nsIn K mainGlobals "_law_tried" = some (some (.ref f13)))
    (l13 : K.lookup f13 = some ⟨oc13, od13, .func (PySem.W.fnOf "_law_tried" "_law_tried" (defArgs sTried) (defBody sTried) (defScope sTried) .none kV13 dc13 pm13 an13 cd13 ct13), sl13⟩)
    (c13 : PySem.W.codeIn K cd13 "_law_tried" = true)
    (k13 : PySem.W.keepIn K (.ref f13) = true)
    (a14 : PySem.W.nsIn K mainGlobals "_law_spoilt" = some (some (.ref f14)))
    (l14 : K.lookup f14 = some ⟨oc14, od14, .func (PySem.W.fnOf "_law_spoilt" "_law_spoilt" (defArgs sBent) (defBody sBent) (defScope sBent) .none kV14 dc14 pm14 an14 cd14 ct14), sl14⟩)
    (c14 : PySem.W.codeIn K cd14 "_law_spoilt" = true)
    (k14 : PySem.W.keepIn K (.ref f14) = true)
    (a15 : PySem.W.nsIn K mainGlobals "_law_is_right" = some (some (.ref f15)))
    (l15 : K.lookup f15 = some ⟨oc15, od15, .func (PySem.W.fnOf "_law_is_right" "_law_is_right" (defArgs sIsRight) (defBody sIsRight) (defScope sIsRight) .none kV15 dc15 pm15 an15 cd15 ct15), sl15⟩)
    (c15 : PySem.W.codeIn K cd15 "_law_is_right" = true)
    (k15 : PySem.W.keepIn K (.ref f15) = true)
    (a16 : PySem.W.nsIn K mainGlobals "_law_right" = some (some (.ref f16)))
    (l16 : K.lookup f16 = some ⟨oc16, od16, .func (PySem.W.fnOf "_law_right" "_law_right" (defArgs sAll) (defBody sAll) (defScope sAll) .none kV16 dc16 pm16 an16 cd16 ct16), sl16⟩)
    (c16 : PySem.W.codeIn K cd16 "_law_right" = true)
    (k16 : PySem.W.keepIn K (.ref f16) = true)
    (a17 : PySem.W.nsIn K mainGlobals "law" = some (some (.ref f17)))
    (l17 : K.lookup f17 = some ⟨oc17, od17, .func (PySem.W.fnOf "law" "law" (defArgs sLaw) (defBody sLaw) (defScope sLaw) .none kV17 dc17 pm17 an17 cd17 ct17), sl17⟩)
    (c17 : PySem.W.codeIn K cd17 "law" = true)
    (k17 : PySem.W.keepIn K (.ref f17) = true)
    (z0 : PySem.W.nsIn K mainGlobals "isinstance" = some none)
    (z1 : PySem.W.nsIn K mainGlobals "int" = some none)
    (z2 : PySem.W.nsIn K mainGlobals "bool" = some none)
    (z3 : PySem.W.nsIn K mainGlobals "str" = some none)
    (z4 : PySem.W.nsIn K mainGlobals "tuple" = some none)
    (z5 : PySem.W.nsIn K mainGlobals "list" = some none)
    (z6 : PySem.W.nsIn K mainGlobals "len" = some none)
    (z7 : PySem.W.nsIn K mainGlobals "all" = some none)
    (z8 : PySem.W.nsIn K mainGlobals "max" = some none)
    (z9 : PySem.W.nsIn K mainGlobals "min" = some none)
    (z10 : PySem.W.nsIn K mainGlobals "repr" = some none)
    (z11 : PySem.W.nsIn K mainGlobals "range" = some none)
    (z12 : PySem.W.nsIn K mainGlobals "divmod" = some none)
    (z13 : PySem.W.nsIn K mainGlobals "ValueError" = some none)
    (z14 : PySem.W.nsIn K mainGlobals "dict" = some none)
    (q0 : PySem.W.nsIn K mainGlobals "MOST_LETTERS" = some (some (.int 8 tk0)))
    (q1 : PySem.W.nsIn K mainGlobals "MOST_FIGURES" = some (some (.int 30 tk1)))
    (q2 : PySem.W.nsIn K mainGlobals "LAST_PLACE" = some (some (.int 11 tk2)))
    (eF : PySem.W.nsIn K mainGlobals "FacerError" = some (some (.ref FE)))
    (eW : PySem.W.nsIn K mainGlobals "NoWeb" = some (some (.ref WE)))
    (eC : PySem.W.nsIn K mainGlobals "NoText" = some (some (.ref C)))
    (ex : PySem.W.excIn K C [.type "ValueError", .type "Exception", .type "BaseException", .type "object"] "ValueError.__new__" = true)
    (ek : PySem.W.keepIn K (.ref C) = true)
    (eb : PySem.W.subIn K (.ref C) (.type "BaseException") = some true)
    (et : PySem.W.typeIn K (.ref C) = some (.type "type"))
    (bF : PySem.W.subIn K (.ref FE) (.type "BaseException") = some true)
    (cF : PySem.W.isClsIn K FE = true)
    (tF : PySem.W.typeIn K (.ref FE) = some (.type "type"))
    (sF : PySem.W.subIn K (.ref C) (.ref FE) = some true)
    (cC : PySem.W.isClsIn K C = true)
    (sC : PySem.W.subIn K (.ref C) (.ref C) = some true)
    (sV : PySem.W.subIn K (.ref C) (.type "ValueError") = some true)
    (cW : PySem.W.isClsIn K WE = true)
    (tW : PySem.W.typeIn K (.ref WE) = some (.type "type"))
    (sW : PySem.W.subIn K (.ref C) (.ref WE) = some false)
    (g1 : PySem.W.findIn K (.ref C) "__getattribute__" = some (some (.builtin "BaseException.__getattribute__")))
    (g2 : PySem.W.findIn K (.ref C) "__getattr__" = some none)
    (g3 : PySem.W.hasDictIn K C = true)
    (g4 : PySem.W.findIn K (.ref C) "__class__" = some (some (.builtin "object.__class__")))
    (g5 : PySem.W.specialIn K (.builtin "object.__class__") "__get__" = some (some (.builtin "getset_descriptor.__get__")))
    (g6 : PySem.W.takesIn K (.builtin "object.__class__") = some true)
    (g7 : PySem.W.mroIn K C (.type "object") = some true)
    : ∃ fd : FuncData, (∀ (s : Shared) (v : Value), BindsTo s fd ⟨[v], []⟩ [("_law_script", v)]) ∧ ∀ base : Heap, K.In base → base.Ns mainGlobals mg → FnG l.prog w K mg base 8 fa fd ["_law_script"] (spLaw K) := by
  have e := hfa.symm.trans (PySem.W.mg_of X G a17)
  cases e
  have T : Txt mg := ⟨PySem.W.mg_none_of X G z0, PySem.W.mg_none_of X G z1, PySem.W.mg_none_of X G z2, PySem.W.mg_none_of X G z3, PySem.W.mg_none_of X G z4, PySem.W.mg_none_of X G z5, PySem.W.mg_none_of X G z6, PySem.W.mg_none_of X G z7, PySem.W.mg_none_of X G z8, PySem.W.mg_none_of X G z9, PySem.W.mg_none_of X G z10, PySem.W.mg_none_of X G z11, PySem.W.mg_none_of X G z12, ⟨_, PySem.W.mg_of X G q0⟩, ⟨_, PySem.W.mg_of X G q1⟩, ⟨_, PySem.W.mg_of X G q2⟩, PySem.W.mg_none_of X G z13, PySem.W.mg_none_of X G z14⟩
  have Er : Err K mg FE WE C := ⟨PySem.W.mg_of X G eF, PySem.W.mg_of X G eW, PySem.W.mg_of X G eC, ex, ek, eb, et, exm_ofF bF cF tF sF, ⟨g1, g2, eb, g3, g4, g5, g6, g7⟩, kit_yes cC et sC, kit_tyV sV, kit_no cW tW sC sW⟩
  have F0 := fun_mk (st := sWhole) l0 c0 k0
  have b0 := F0.binds (ps := ["thing"]) fun _ _ _ _ _ _ us hl => match us, hl with | [_], _ => rfl
  have F1 := fun_mk (st := sName) l1 c1 k1
  have b1 := F1.binds (ps := ["thing"]) fun _ _ _ _ _ _ us hl => match us, hl with | [_], _ => rfl
  have F2 := fun_mk (st := sPlace) l2 c2 k2
  have b2 := F2.binds (ps := ["thing"]) fun _ _ _ _ _ _ us hl => match us, hl with | [_], _ => rfl
  have F3 := fun_mk (st := sWho) l3 c3 k3
  have b3 := F3.binds (ps := ["thing"]) fun _ _ _ _ _ _ us hl => match us, hl with | [_], _ => rfl
  have F4 := fun_mk (st := sNum) l4 c4 k4
  have b4 := F4.binds (ps := ["text"]) fun _ _ _ _ _ _ us hl => match us, hl with | [_], _ => rfl
  have F5 := fun_mk (st := sWhoText) l5 c5 k5
  have b5 := F5.binds (ps := ["who"]) fun _ _ _ _ _ _ us hl => match us, hl with | [_], _ => rfl
  have F6 := fun_mk (st := sEndText) l6 c6 k6
  have b6 := F6.binds (ps := ["end"]) fun _ _ _ _ _ _ us hl => match us, hl with | [_], _ => rfl
  have F7 := fun_mk (st := sWhoOf) l7 c7 k7
  have b7 := F7.binds (ps := ["text"]) fun _ _ _ _ _ _ us hl => match us, hl with | [_], _ => rfl
  have F8 := fun_mk (st := sPot) l8 c8 k8
  have b8 := F8.binds (ps := ["_law_script", "_law_k"]) fun _ _ _ _ _ _ us hl => match us, hl with | [_, _], _ => rfl
  have F9 := fun_mk (st := sTake) l9 c9 k9
  have b9 := F9.binds (ps := ["_law_pot_here", "_law_much"]) fun _ _ _ _ _ _ us hl => match us, hl with | [_, _], _ => rfl
  have F10 := fun_mk (st := sNew) l10 c10 k10
  have b10 := F10.binds (ps := ["_law_pot_here", "_law_used"]) fun _ _ _ _ _ _ us hl => match us, hl with | [_, _], _ => rfl
  have F11 := fun_mk (st := sLabel) l11 c11 k11
  have b11 := F11.binds (ps := ["_law_thing"]) fun _ _ _ _ _ _ us hl => match us, hl with | [_], _ => rfl
  have F12 := fun_mk (st := sTold) l12 c12 k12
  have b12 := F12.binds (ps := ["_law_word"]) fun _ _ _ _ _ _ us hl => match us, hl with | [_], _ => rfl
  have F13 := fun_mk (st := sTried) l13 c13 k13
  have b13 := F13.binds (ps := ["_law_word"]) fun _ _ _ _ _ _ us hl => match us, hl with | [_], _ => rfl
  have F14 := fun_mk (st := sBent) l14 c14 k14
  have b14 := F14.binds (ps := ["_law_pot_here", "_law_word"]) fun _ _ _ _ _ _ us hl => match us, hl with | [_, _], _ => rfl
  have F15 := fun_mk (st := sIsRight) l15 c15 k15
  have b15 := F15.binds (ps := ["_law_word"]) fun _ _ _ _ _ _ us hl => match us, hl with | [_], _ => rfl
  have F16 := fun_mk (st := sAll) l16 c16 k16
  have b16 := F16.binds (ps := ["_law_pot_here"]) fun _ _ _ _ _ _ us hl => match us, hl with | [_], _ => rfl
  have F17 := fun_mk (st := sLaw) l17 c17 k17
  refine ⟨PySem.W.fnOf "law" "law" (defArgs sLaw) (defBody sLaw) (defScope sLaw) .none kV17 dc17 pm17 an17 cd17 ct17, fun s v => .of_eq rfl, fun base _ _ => ?_⟩
  have O0 : Own l.prog w K mg base "is_whole" 1 spWhole := ⟨_, _, _, ok_whole F0 T , PySem.W.mg_of X G a0, k0, b0⟩
  have O1 : Own l.prog w K mg base "is_name" 1 spName := ⟨_, _, _, ok_name F1 T , PySem.W.mg_of X G a1, k1, b1⟩
  have O2 : Own l.prog w K mg base "is_place" 2 spPlace := ⟨_, _, _, ok_place F2 T O0, PySem.W.mg_of X G a2, k2, b2⟩
  have O3 : Own l.prog w K mg base "is_who" 3 spWho := ⟨_, _, _, ok_who F3 T O1 O2, PySem.W.mg_of X G a3, k3, b3⟩
  have O4 : Own l.prog w K mg base "number_of" 1 spNum := ⟨_, _, _, ok_num F4 T , PySem.W.mg_of X G a4, k4, b4⟩
  have O5 : OwnK l.prog w K mg base "who_text" 1 "who" spWhoText := ⟨_, _, ok_whotext F5 T , PySem.W.mg_of X G a5, k5, b5, fun s u => .of_eq rfl⟩
  have O6 : OwnK l.prog w K mg base "end_text" 2 "end" spEndText := ⟨_, _, ok_endtext F6 T O5.own, PySem.W.mg_of X G a6, k6, b6, fun s u => .of_eq rfl⟩
  have O7 : OwnX l.prog w K mg base "who_of" 4 ["text"] (spWhoOf C) := ⟨_, _, ok_whoof F7 T Er O4 O3, PySem.W.mg_of X G a7, k7, b7, fun nm e s u => by cases e; exact .of_eq rfl⟩
  have O8 : Own l.prog w K mg base "_law_pot" 1 (spPot K) := ⟨_, _, _, ok_pot F8 T , PySem.W.mg_of X G a8, k8, b8⟩
  have O9 : Own l.prog w K mg base "_law_take" 1 spTake := ⟨_, _, _, ok_take F9 T , PySem.W.mg_of X G a9, k9, b9⟩
  have O10 : Own l.prog w K mg base "_law_label" 2 spNew := ⟨_, _, _, ok_new F10 T O9, PySem.W.mg_of X G a10, k10, b10⟩
  have O11 : Own l.prog w K mg base "_law_is_label" 1 spName := ⟨_, _, _, ok_label F11 T , PySem.W.mg_of X G a11, k11, b11⟩
  have O12 : Own l.prog w K mg base "_law_who_told" 2 spTold := ⟨_, _, _, ok_told F12 T O11, PySem.W.mg_of X G a12, k12, b12⟩
  have O13 : Own l.prog w K mg base "_law_tried" 5 spTried := ⟨_, _, _, ok_tried F13 T Er O7, PySem.W.mg_of X G a13, k13, b13⟩
  have O14 : Own l.prog w K mg base "_law_spoilt" 2 spBent := ⟨_, _, _, ok_bent F14 T O9, PySem.W.mg_of X G a14, k14, b14⟩
  have O15 : Own l.prog w K mg base "_law_is_right" 6 spIsRight := ⟨_, _, _, ok_isright F15 T O12 O13, PySem.W.mg_of X G a15, k15, b15⟩
  have O16 : Own l.prog w K mg base "_law_right" 7 spAll := ⟨_, _, _, ok_all F16 T O9 O10 O5 O6 O7 O14 O15, PySem.W.mg_of X G a16, k16, b16⟩
  exact ok_law F17 T O8 O16
theorem lawSp (K : PySem.W.Frag) (H : Hp) (a : Addr) (ns : List Int) (hl : ns.length ≤ 63) (h : SqL K H a (ns.map V.int)) : spLaw K [.ref a] H (fun v _ => v = .bl true) fun _ _ _ => False := by
  refine ⟨H, [.sc K a ns], fun _ => none, .cons ⟨rfl, h⟩ .nil, Ex.refl H, nofun, ⟨a, ns, rfl, hl⟩, ?_⟩
  rintro v r B' H' μ' I q rfl
  cases q
  rfl
end K18

open PySem PySem.W PyProof.Rows in
set_option maxRecDepth 100000 in
set_option maxHeartbeats 0 in
theorem PySem.Challenge.cw_onefacers_k18_whos_and_ends_as_texts_holds : PySem.Challenge.rw_onefacers_k18_whos_and_ends_as_texts.Holds := by
  w_on; o_law; k_head; (case hw => w_witness2)
  k_fill
  refine Dat.walk_data (l := PySem.Challenge.rw_onefacers_k18_whos_and_ends_as_texts) (n := 63) (k := 8) (x := "_law_script") (SP := fun K => K18.spLaw K) rfl (by decide) rfl ⟨rfl, by decide, by decide⟩ (fun w h Y => PySem.W.kIn_of Y) ?F (fun K H a ns hl h => K18.lawSp K H a ns hl h)
  case F =>
    intro w mg fa h KX G hmg
    refine' K18.all_mk KX G hmg ?a0 ?l0 ?c0 ?k0 ?a1 ?l1 ?c1 ?k1 ?a2 ?l2 ?c2 ?k2 ?a3 ?l3 ?c3 ?k3 ?a4 ?l4 ?c4 ?k4 ?a5 ?l5 ?c5 ?k5 ?a6 ?l6 ?c6 ?k6 ?a7 ?l7 ?c7 ?k7 ?a8 ?l8 ?c8 ?k8 ?a9 ?l9 ?c9 ?k9 ?a10 ?l10 ?c10 ?k10 ?a11 ?l11 ?c11 ?k11 ?a12 ?l12 ?c12 ?k12 ?a13 ?l13 ?c13 ?k13 ?a14 ?l14 ?c14 ?k14 ?a15 ?l15 ?c15 ?k15 ?a16 ?l16 ?c16 ?k16 ?a17 ?l17 ?c17 ?k17 ?z0 ?z1 ?z2 ?z3 ?z4 ?z5 ?z6 ?z7 ?z8 ?z9 ?z10 ?z11 ?z12 ?z13 ?z14 ?q0 ?q1 ?q2 ?eF ?eW ?eC ?ex ?ek ?eb ?et ?bF ?cF ?tF ?sF ?cC ?sC ?sV ?cW ?tW ?sW ?g1 ?g2 ?g3 ?g4 ?g5 ?g6 ?g7
    (case a0 => k_is)
    (case l0 => k_is)
    (case c0 => k_is)
    (case k0 => k_is)
    (case a1 => k_is)
    (case l1 => k_is)
    (case c1 => k_is)
    (case k1 => k_is)
    (case a2 => k_is)
    (case l2 => k_is)
    (case c2 => k_is)
    (case k2 => k_is)
    (case a3 => k_is)
    (case l3 => k_is)
    (case c3 => k_is)
    (case k3 => k_is)
    (case a4 => k_is)
    (case l4 => k_is)
    (case c4 => k_is)
    (case k4 => k_is)
    (case a5 => k_is)
    (case l5 => k_is)
    (case c5 => k_is)
    (case k5 => k_is)
    (case a6 => k_is)
    (case l6 => k_is)
    (case c6 => k_is)
    (case k6 => k_is)
    (case a7 => k_is)
    (case l7 => k_is)
    (case c7 => k_is)
    (case k7 => k_is)
    (case a8 => k_is)
    (case l8 => k_is)
    (case c8 => k_is)
    (case k8 => k_is)
    (case a9 => k_is)
    (case l9 => k_is)
    (case c9 => k_is)
    (case k9 => k_is)
    (case a10 => k_is)
    (case l10 => k_is)
    (case c10 => k_is)
    (case k10 => k_is)
    (case a11 => k_is)
    (case l11 => k_is)
    (case c11 => k_is)
    (case k11 => k_is)
    (case a12 => k_is)
    (case l12 => k_is)
    (case c12 => k_is)
    (case k12 => k_is)
    (case a13 => k_is)
    (case l13 => k_is)
    (case c13 => k_is)
    (case k13 => k_is)
    (case a14 => k_is)
    (case l14 => k_is)
    (case c14 => k_is)
    (case k14 => k_is)
    (case a15 => k_is)
    (case l15 => k_is)
    (case c15 => k_is)
    (case k15 => k_is)
    (case a16 => k_is)
    (case l16 => k_is)
    (case c16 => k_is)
    (case k16 => k_is)
    (case a17 => k_is)
    (case l17 => k_is)
    (case c17 => k_is)
    (case k17 => k_is)
    (case z0 => k_is)
    (case z1 => k_is)
    (case z2 => k_is)
    (case z3 => k_is)
    (case z4 => k_is)
    (case z5 => k_is)
    (case z6 => k_is)
    (case z7 => k_is)
    (case z8 => k_is)
    (case z9 => k_is)
    (case z10 => k_is)
    (case z11 => k_is)
    (case z12 => k_is)
    (case z13 => k_is)
    (case z14 => k_is)
    (case q0 => k_is)
    (case q1 => k_is)
    (case q2 => k_is)
    (case eF => k_is)
    (case eW => k_is)
    (case eC => k_is)
    (case ex => k_exc)
    (case ek => k_is)
    (case eb => k_is)
    (case et => k_is)
    (case bF => k_is)
    (case cF => k_is)
    (case tF => k_is)
    (case sF => k_is)
    (case cC => k_is)
    (case sC => k_is)
    (case sV => k_is)
    (case cW => k_is)
    (case tW => k_is)
    (case sW => k_is)
    (case g1 => k_is)
    (case g2 => k_is)
    (case g3 => k_is)
    (case g4 => k_is)
    (case g5 => k_is)
    (case g6 => k_is)
    (case g7 => k_is)

