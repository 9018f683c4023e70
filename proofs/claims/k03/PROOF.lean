import PyProof.Rows.All
import HandS.List
import HandS.Comp
import HandS.Ends
import HandS.Exc
import HandS.ExcOwn
import HandS.TryMany
import HandS.TryOnly
import KE.KTypeName
import HandS.Deep
import HandS.TupAny
import HandS.Text
import HandS.Codes
import HandS.Zip
import HandS.Replace
import HandS.WordsExc
import HandS.More
import HandS.Words
import HandS.Style
import HandS.ExcInit
import HandS.ExcField
import KE.KExcSuper
import PySem.Challenge.RW_everypairing_k03_where_web_texts_end
set_option Elab.async false
set_option linter.all false
set_option maxRecDepth 100000
set_option maxHeartbeats 2000000
namespace Bs
open PySem PySem.Spec PyProof.Rows L2

/-- what a slot of the frame is known to hold: nothing told, data, a list of its own -/
inductive Sl where
  | any
  | dat (d : PyData)
  | own (p : Addr) (ds : List PyData)
  | exn (a : Addr) (d : Option Addr) (fs : List (Str × PyData))
abbrev Rho := List Sl
/-- a result: data, a new list, a list that slot i owns -/
inductive Rv where
  | d (x : PyData)
  | n (ds : List PyData)
  | b (i : Nat) (ds : List PyData)
def Rv.dt : Rv → PyData
  | .d x => x
  | .n ds => .list ds
  | .b _ ds => .list ds

def Up (H H' : Hp) : Prop := ∀ a o, H a = some o → H' a = some o
theorem Up.rfl' (H : Hp) : Up H H := fun _ _ h => h
theorem Up.trans {H H1 H2 : Hp} (a : Up H H1) (b : Up H1 H2) : Up H H2 := fun x o h => b x o (a x o h)
theorem Up.new {H : Hp} {p : Addr} {o : HO} (h : H p = none) : Up H (upd H p o) := fun a u e => (upd_ne (ne_of_none e h)).trans e
/-- an object that is not in B may change -/
theorem Up.mut {B H : Hp} {p : Addr} {o : HO} (e : Up B H) (h : B p = none) : Up B (upd H p o) := fun a u ha => (upd_ne (ne_of_none ha h)).trans (e a u ha)
theorem up_rd {H H' : Hp} {a : Addr} {u : HO} (e : Up H H') (h : Rd H a u) : Rd H' a u := h.elim (fun x => Or.inl (e a _ x)) (fun ⟨o, x⟩ => Or.inr ⟨o, e a _ x⟩)
theorem up_l {K : PySem.W.Frag} {H H' : Hp} {a : Addr} {xs : List V} (e : Up H H') (h : SqL K H a xs) : SqL K H' a xs := h.elim (fun x => Or.inl (up_rd e x)) Or.inr
theorem up_t {K : PySem.W.Frag} {H H' : Hp} {a : Addr} {xs : List V} (e : Up H H') (h : SqT K H a xs) : SqT K H' a xs := h.elim (fun x => Or.inl (up_rd e x)) Or.inr
mutual
theorem Dp.up {K : PySem.W.Frag} {H H' : Hp} (e : Up H H') : ∀ {d : PyData} {v : V}, Dp K H v d → Dp K H' v d
  | _, _, .non => .non
  | _, _, .bl b => .bl b
  | _, _, .int b => .int b
  | _, _, .str b => .str b
  | _, _, .lst s a => .lst (up_l e s) (DpAll.up e a)
  | _, _, .tup s a => .tup (up_t e s) (DpAll.up e a)
theorem DpAll.up {K : PySem.W.Frag} {H H' : Hp} (e : Up H H') : ∀ {ds : List PyData} {vs : List V}, DpAll K H vs ds → DpAll K H' vs ds
  | _, _, .nil => .nil
  | _, _, .cons h t => .cons (Dp.up e h) (DpAll.up e t)
end
theorem DpAll.len {K : PySem.W.Frag} {H : Hp} : ∀ {ds : List PyData} {vs : List V}, DpAll K H vs ds → vs.length = ds.length
  | _, _, .nil => rfl
  | _, _, .cons _ t => congrArg (· + 1) (DpAll.len t)
theorem DpAll.get {K : PySem.W.Frag} {H : Hp} : ∀ {ds : List PyData} {vs : List V} {i : Nat} {d : PyData}, DpAll K H vs ds → ds[i]? = some d → ∃ v, vs[i]? = some v ∧ Dp K H v d
  | _, _, 0, _, .cons h _, e => by simp at e; subst e; exact ⟨_, rfl, h⟩
  | _, _, i + 1, _, .cons _ t, e => by
    obtain ⟨v, h1, h2⟩ := DpAll.get (i := i) t (by simpa using e)
    exact ⟨v, by simpa using h1, h2⟩
theorem DpAll.get' {K : PySem.W.Frag} {H : Hp} : ∀ {ds : List PyData} {vs : List V} {i : Nat} {v : V}, DpAll K H vs ds → vs[i]? = some v → ∃ d, ds[i]? = some d ∧ Dp K H v d
  | _, _, 0, _, .cons h _, e => by simp at e; subst e; exact ⟨_, rfl, h⟩
  | _, _, i + 1, _, .cons _ t, e => by
    obtain ⟨v, h1, h2⟩ := DpAll.get' (i := i) t (by simpa using e)
    exact ⟨v, by simpa using h1, h2⟩
theorem DpAll.set {K : PySem.W.Frag} {H : Hp} {v : V} {d : PyData} (h : Dp K H v d) : ∀ {ds : List PyData} {vs : List V} (i : Nat), DpAll K H vs ds → DpAll K H (vs.set i v) (ds.set i d)
  | _, _, _, .nil => .nil
  | _, _, 0, .cons _ t => .cons h t
  | _, _, i + 1, .cons q t => .cons q (DpAll.set h i t)
theorem DpAll.app {K : PySem.W.Frag} {H : Hp} : ∀ {ds es : List PyData} {vs ws : List V}, DpAll K H vs ds → DpAll K H ws es → DpAll K H (vs ++ ws) (ds ++ es)
  | _, _, _, _, .nil, s => s
  | _, _, _, _, .cons h t, s => .cons h (DpAll.app t s)
theorem DpAll.take {K : PySem.W.Frag} {H : Hp} : ∀ {ds : List PyData} {vs : List V} (n : Nat), DpAll K H vs ds → DpAll K H (vs.take n) (ds.take n)
  | _, _, 0, _ => .nil
  | _, _, _ + 1, .nil => .nil
  | _, _, n + 1, .cons h t => .cons h (DpAll.take n t)
theorem DpAll.drop {K : PySem.W.Frag} {H : Hp} : ∀ {ds : List PyData} {vs : List V} (n : Nat), DpAll K H vs ds → DpAll K H (vs.drop n) (ds.drop n)
  | _, _, 0, h => h
  | _, _, _ + 1, .nil => .nil
  | _, _, n + 1, .cons _ t => DpAll.drop n t
theorem DpAll.one {K : PySem.W.Frag} {H : Hp} {v : V} {d : PyData} (h : Dp K H v d) : DpAll K H [v] [d] := .cons h .nil

/-- the addresses of the lists that slots own -/
def owns : Rho → List Addr
  | [] => []
  | .own p _ :: r => p :: owns r
  | .any :: r => owns r
  | .dat _ :: r => owns r
  | .exn _ _ _ :: r => owns r
theorem mem_owns : ∀ {ρ : Rho} {p : Addr}, p ∈ owns ρ ↔ ∃ (i : Nat) (ds : List PyData), ρ[i]? = some (.own p ds)
  | [], p => Iff.intro (fun h => by simp [owns] at h) (fun ⟨i, ds, h⟩ => by simp at h)
  | .own q es :: r, p => by
    constructor
    · intro h
      rcases List.mem_cons.mp h with rfl | h
      · exact ⟨0, es, rfl⟩
      · obtain ⟨i, ds, e⟩ := mem_owns.mp h
        exact ⟨i + 1, ds, by rw [List.getElem?_cons_succ]; exact e⟩
    · rintro ⟨i, ds, e⟩
      cases i with
      | zero => simp at e; obtain ⟨rfl, _⟩ := e; exact List.mem_cons_self
      | succ i => exact List.mem_cons_of_mem _ (mem_owns.mpr ⟨i, ds, by rw [List.getElem?_cons_succ] at e; exact e⟩)
  | .any :: r, p => by
    constructor
    · intro h
      obtain ⟨i, ds, e⟩ := mem_owns.mp (show p ∈ owns r from h)
      exact ⟨i + 1, ds, by rw [List.getElem?_cons_succ]; exact e⟩
    · rintro ⟨i, ds, e⟩
      cases i with
      | zero => simp at e
      | succ i => exact (show p ∈ owns r from mem_owns.mpr ⟨i, ds, by rw [List.getElem?_cons_succ] at e; exact e⟩)
  | .dat _ :: r, p => by
    constructor
    · intro h
      obtain ⟨i, ds, e⟩ := mem_owns.mp (show p ∈ owns r from h)
      exact ⟨i + 1, ds, by rw [List.getElem?_cons_succ]; exact e⟩
    · rintro ⟨i, ds, e⟩
      cases i with
      | zero => simp at e
      | succ i => exact (show p ∈ owns r from mem_owns.mpr ⟨i, ds, by rw [List.getElem?_cons_succ] at e; exact e⟩)
  | .exn _ _ _ :: r, p => by
    constructor
    · intro h
      obtain ⟨i, ds, e⟩ := mem_owns.mp (show p ∈ owns r from h)
      exact ⟨i + 1, ds, by rw [List.getElem?_cons_succ]; exact e⟩
    · rintro ⟨i, ds, e⟩
      cases i with
      | zero => simp at e
      | succ i => exact (show p ∈ owns r from mem_owns.mpr ⟨i, ds, by rw [List.getElem?_cons_succ] at e; exact e⟩)

/-- an exception's fields stand frozen -/
def XdB (K : PySem.W.Frag) (B : Hp) (d : Option Addr) (fs : List (Str × PyData)) : Prop := (fs = [] ∧ d = none) ∨ ∃ a fv, d = some a ∧ B a = some (.xd fv) ∧ Paired (fun (p : Str × PyData) (q : Str × V) => p.1 = q.1 ∧ Dp K B q.2 p.2) fs fv
theorem XdB.up {K : PySem.W.Frag} {B B' : Hp} {d : Option Addr} {fs : List (Str × PyData)} (h : XdB K B d fs) (u : Up B B') : XdB K B' d fs := by
  rcases h with h | ⟨a, fv, e, q, r⟩
  · exact .inl h
  · refine .inr ⟨a, fv, e, u _ _ q, ?_⟩
    clear q e
    induction r with
    | nil => exact .nil
    | cons x _ ih => exact .cons ⟨x.1, Dp.up u x.2⟩ ih
/-- a slot's value is as told; B: the data that stands still -/
def SlOk (K : PySem.W.Frag) (B H : Hp) : Sl → Option V → Prop
  | .any, _ => True
  | .dat d, o => ∃ v, o = some v ∧ Dp K B v d
  | .exn a d fs, o => o = some (.ref a) ∧ XdB K B d fs
  | .own p ds, o => o = some (.ref p) ∧ B p = none ∧ ∃ vs, H p = some (.lst vs) ∧ DpAll K B vs ds
structure Rel (K : PySem.W.Frag) (B : Hp) (ρ : Rho) (σ : L2.St) (H : Hp) : Prop where
  up : Up B H
  len : ρ.length = σ.length
  sl : ∀ (i : Nat) (s : Sl) (o : Option V), ρ[i]? = some s → σ[i]? = some o → SlOk K B H s o
  one : ∀ (i j : Nat) (p : Addr) (ds es : List PyData), ρ[i]? = some (.own p ds) → ρ[j]? = some (.own p es) → i = j
/-- from (B, ρ, H) to (B', ρ', H'): what was known is known, what was not owned stands as it stood -/
structure Go (B : Hp) (ρ : Rho) (H : Hp) (B' : Hp) (ρ' : Rho) (H' : Hp) : Prop where
  gr : Up B B'
  fr : ∀ a, a ∉ owns ρ → B a = none → H a ≠ none → B' a = none
  fm : ∀ a o, a ∉ owns ρ → H a = some o → H' a = some o
  ow : ∀ p, p ∈ owns ρ' → p ∈ owns ρ ∨ H p = none
  th : ∀ a, H a ≠ none → H' a ≠ none
theorem Go.refl (B : Hp) (ρ : Rho) (H : Hp) : Go B ρ H B ρ H := ⟨fun _ _ h => h, fun _ _ h _ => h, fun _ _ _ h => h, fun _ h => Or.inl h, fun _ h => h⟩
theorem Go.trans {B B1 B2 H H1 H2 : Hp} {ρ ρ1 ρ2 : Rho} (x : Go B ρ H B1 ρ1 H1) (y : Go B1 ρ1 H1 B2 ρ2 H2) : Go B ρ H B2 ρ2 H2 where
  gr := x.gr.trans y.gr
  fr := fun a h1 h2 h3 => y.fr a (fun z => (x.ow a z).elim h1 h3) (x.fr a h1 h2 h3) (x.th a h3)
  fm := fun a o h1 h2 => y.fm a o (fun z => (x.ow a z).elim h1 (fun q => by rw [q] at h2; cases h2)) (x.fm a o h1 h2)
  ow := fun p h => (y.ow p h).elim (fun z => x.ow p z) (fun q => Or.inr (by
    cases e : H p with
    | none => rfl
    | some o => exact absurd q (x.th p (by rw [e]; exact fun z => nomatch z))))
  th := fun a h => y.th a (x.th a h)
/-- what is freshly at p, ahead of the origin's heap -/
def VOk (K : PySem.W.Frag) (H0 : Hp) (B : Hp) (ρ : Rho) (H : Hp) (v : V) : Rv → Prop
  | .d d => Dp K B v d
  | .n ds => ∃ p vs, v = .ref p ∧ H0 p = none ∧ B p = none ∧ p ∉ owns ρ ∧ H p = some (.lst vs) ∧ DpAll K B vs ds
  | .b i ds => ∃ p, v = .ref p ∧ ρ[i]? = some (.own p ds)
/-- read at the heap as it is -/
theorem VOk.dp {K : PySem.W.Frag} {H0 B H : Hp} {ρ : Rho} {σ : L2.St} {v : V} {r : Rv} (x : VOk K H0 B ρ H v r) (R : Rel K B ρ σ H) : Dp K H v r.dt := by
  cases r with
  | d d => exact Dp.up R.up x
  | n ds =>
    obtain ⟨p, vs, rfl, _, _, _, h, a⟩ := x
    exact .lst (.of h) (DpAll.up R.up a)
  | b i ds =>
    obtain ⟨p, rfl, e⟩ := x
    have hi : i < σ.length := by rw [← R.len]; exact (List.getElem?_eq_some_iff.mp e).1
    obtain ⟨_, _, vs, h, a⟩ := R.sl i _ _ e (List.getElem?_eq_getElem hi)
    exact .lst (.of h) (DpAll.up R.up a)
/-- what is borrowed is as it was -/
def Cur (ρ ρ' : Rho) : Rv → Prop
  | .b i ds => ∀ p, ρ[i]? = some (.own p ds) → ρ'[i]? = some (.own p ds)
  | _ => True
/-- carried on -/
theorem VOk.on {K : PySem.W.Frag} {H0 B1 H1 B2 H2 : Hp} {ρ1 ρ2 : Rho} {v : V} {r : Rv} (x : VOk K H0 B1 ρ1 H1 v r) (y : Go B1 ρ1 H1 B2 ρ2 H2) (c : Cur ρ1 ρ2 r) : VOk K H0 B2 ρ2 H2 v r := by
  cases r with
  | d d => exact Dp.up y.gr x
  | n ds =>
    obtain ⟨p, vs, rfl, h0, hb, no, h, a⟩ := x
    have hn : H1 p ≠ none := by rw [h]; exact fun z => nomatch z
    exact ⟨p, vs, rfl, h0, y.fr p no hb hn, fun z => (y.ow p z).elim no hn, y.fm p _ no h, DpAll.up y.gr a⟩
  | b i ds =>
    obtain ⟨p, rfl, e⟩ := x
    exact ⟨p, rfl, c p e⟩
/-- a new object that is data from now on -/
theorem Go.laid {B0 B H0 H : Hp} {ρ0 ρ : Rho} {p : Addr} {o : HO} (g : Go B0 ρ0 H0 B ρ H) (u : Up B H) (hp : H p = none) : Go B0 ρ0 H0 (upd B p o) ρ (upd H p o) where
  gr := g.gr.trans (Up.new (by
    cases e : B p with
    | none => rfl
    | some q => rw [u p q e] at hp; cases hp))
  fr := fun a h1 h2 h3 => (upd_ne (fun z => g.th a h3 (by rw [z]; exact hp))).trans (g.fr a h1 h2 h3)
  fm := fun a q h1 h2 => (upd_ne (fun z => by rw [z] at h2; exact g.th p (by rw [h2]; exact fun z => nomatch z) hp)).trans (g.fm a q h1 h2)
  ow := g.ow
  th := fun a h => by
    by_cases e : a = p
    · rw [e, upd_same]; exact fun z => nomatch z
    · rw [upd_ne e]; exact g.th a h
theorem none_up {B H : Hp} {p : Addr} (u : Up B H) (hp : H p = none) : B p = none := by
  cases e : B p with
  | none => rfl
  | some q => rw [u p q e] at hp; cases hp
/-- .. that is told by nobody, or a new list -/
theorem Go.put {B0 B H0 H : Hp} {ρ0 ρ : Rho} {p : Addr} {o : HO} (g : Go B0 ρ0 H0 B ρ H) (hp : H p = none) : Go B0 ρ0 H0 B ρ (upd H p o) where
  gr := g.gr
  fr := g.fr
  fm := fun a q h1 h2 => (upd_ne (fun z => by rw [z] at h2; exact g.th p (by rw [h2]; exact fun z => nomatch z) hp)).trans (g.fm a q h1 h2)
  ow := g.ow
  th := fun a h => by
    by_cases e : a = p
    · rw [e, upd_same]; exact fun z => nomatch z
    · rw [upd_ne e]; exact g.th a h
theorem Rel.own_there {K : PySem.W.Frag} {B H : Hp} {ρ : Rho} {σ : L2.St} (R : Rel K B ρ σ H) {p : Addr} (h : p ∈ owns ρ) : B p = none ∧ ∃ vs, H p = some (.lst vs) := by
  obtain ⟨i, ds, e⟩ := mem_owns.mp h
  have hi : i < σ.length := by rw [← R.len]; exact (List.getElem?_eq_some_iff.mp e).1
  obtain ⟨_, b, vs, h, _⟩ := R.sl i _ _ e (List.getElem?_eq_getElem hi)
  exact ⟨b, vs, h⟩
theorem Rel.laid {K : PySem.W.Frag} {B H : Hp} {ρ : Rho} {σ : L2.St} {p : Addr} {o : HO} (R : Rel K B ρ σ H) (hp : H p = none) : Rel K (upd B p o) ρ σ (upd H p o) where
  up := fun a q h => by
    by_cases e : a = p
    · rw [e, upd_same] at h; rw [e, upd_same]; exact h
    · rw [upd_ne e] at h; rw [upd_ne e]; exact R.up a q h
  len := R.len
  sl := fun i s v e1 e2 => by
    have x := R.sl i s v e1 e2
    have nb := none_up R.up hp
    cases s with
    | any => trivial
    | exn a d fs => exact ⟨x.1, x.2.up (Up.new nb)⟩
    | dat d =>
      obtain ⟨u, e, q⟩ := x
      exact ⟨u, e, Dp.up (Up.new nb) q⟩
    | own q ds =>
      obtain ⟨e, hb, vs, hv, a⟩ := x
      have ne : q ≠ p := ne_of_none hv hp
      exact ⟨e, (upd_ne ne).trans hb, vs, (upd_ne ne).trans hv, DpAll.up (Up.new nb) a⟩
  one := R.one
theorem Rel.put {K : PySem.W.Frag} {B H : Hp} {ρ : Rho} {σ : L2.St} {p : Addr} {o : HO} (R : Rel K B ρ σ H) (hp : H p = none) : Rel K B ρ σ (upd H p o) where
  up := R.up.trans (Up.new hp)
  len := R.len
  sl := fun i s v e1 e2 => by
    have x := R.sl i s v e1 e2
    cases s with
    | any => trivial
    | exn a d fs => exact x
    | dat d => exact x
    | own q ds =>
      obtain ⟨e, hb, vs, hv, a⟩ := x
      exact ⟨e, hb, vs, (upd_ne (ne_of_none hv hp)).trans hv, a⟩
  one := R.one
/-- a new list becomes data -/
theorem VOk.freeze {K : PySem.W.Frag} {B0 H0 B H : Hp} {ρ0 ρ : Rho} {σ : L2.St} {v : V} {r : Rv} (nb : ∀ i ds, r ≠ .b i ds) (g : Go B0 ρ0 H0 B ρ H) (R : Rel K B ρ σ H) (x : VOk K H0 B ρ H v r) :
    ∃ B', Go B0 ρ0 H0 B' ρ H ∧ Rel K B' ρ σ H ∧ Dp K B' v r.dt ∧ Up B B' ∧ ∀ p, B p = none → B' p ≠ none → H0 p = none ∧ v = .ref p := by
  cases r with
  | d d => exact ⟨B, g, R, x, Up.rfl' B, fun p h1 h2 => absurd h1 h2⟩
  | b i ds => exact absurd rfl (nb i ds)
  | n ds =>
    obtain ⟨p, vs, rfl, h0, hb, no, h, a⟩ := x
    have un : Up B (upd B p (.lst vs)) := Up.new hb
    refine ⟨upd B p (.lst vs), ⟨g.gr.trans un, fun c h1 h2 h3 => ?_, g.fm, g.ow, g.th⟩, ⟨fun c q hc => ?_, R.len, fun i s o e1 e2 => ?_, R.one⟩, .lst (.of upd_same) (DpAll.up un a), un, fun c h1 h2 => ?_⟩
    · have : c ≠ p := fun z => h3 (by rw [z]; exact h0)
      exact (upd_ne this).trans (g.fr c h1 h2 h3)
    · by_cases e : c = p
      · rw [e, upd_same] at hc; cases hc; rw [e]; exact h
      · rw [upd_ne e] at hc; exact R.up c q hc
    · have y := R.sl i s o e1 e2
      cases s with
      | any => trivial
      | exn a d fs => exact ⟨y.1, y.2.up un⟩
      | dat d =>
        obtain ⟨u, e, q⟩ := y
        exact ⟨u, e, Dp.up un q⟩
      | own q es =>
        obtain ⟨e, hb', ws, hw, a'⟩ := y
        have ne : q ≠ p := fun z => no (by rw [← z]; exact mem_owns.mpr ⟨i, es, e1⟩)
        exact ⟨e, (upd_ne ne).trans hb', ws, hw, DpAll.up un a'⟩
    · by_cases e : c = p
      · exact ⟨by rw [e]; exact h0, by rw [e]⟩
      · rw [upd_ne e] at h2; exact absurd h1 h2
end Bs
set_option maxHeartbeats 2000000
namespace Bs
open PySem PySem.Spec PyProof.Rows L2

theorem VOk.org {K : PySem.W.Frag} {B0 H0 B H B1 H1 : Hp} {ρ0 ρ ρ1 : Rho} {v : V} {r : Rv} (x : VOk K H B1 ρ1 H1 v r) (g : Go B0 ρ0 H0 B ρ H) : VOk K H0 B1 ρ1 H1 v r := by
  cases r with
  | d d => exact x
  | n ds =>
    obtain ⟨p, vs, rfl, h0, q⟩ := x
    refine ⟨p, vs, rfl, ?_, q⟩
    cases e : H0 p with
    | none => rfl
    | some o => exact absurd h0 (g.th p (by rw [e]; exact fun z => nomatch z))
  | b i ds => exact x

/-- a value as operators see it: data, or a list whose items are data -/
def Vw (K : PySem.W.Frag) (B H : Hp) (v : V) (d : PyData) : Prop := Dp K B v d ∨ ∃ a vs ds, v = .ref a ∧ d = .list ds ∧ SqL K H a vs ∧ DpAll K B vs ds
theorem VOk.vw {K : PySem.W.Frag} {H0 B H : Hp} {ρ : Rho} {σ : L2.St} {v : V} {r : Rv} (x : VOk K H0 B ρ H v r) (R : Rel K B ρ σ H) : Vw K B H v r.dt := by
  cases r with
  | d d => exact .inl x
  | n ds =>
    obtain ⟨p, vs, rfl, _, _, _, h, a⟩ := x
    exact .inr ⟨p, vs, ds, rfl, rfl, .of h, a⟩
  | b i ds =>
    obtain ⟨p, rfl, e⟩ := x
    have hi : i < σ.length := by rw [← R.len]; exact (List.getElem?_eq_some_iff.mp e).1
    obtain ⟨_, _, vs, h, a⟩ := R.sl i _ _ e (List.getElem?_eq_getElem hi)
    exact .inr ⟨p, vs, ds, rfl, rfl, .of h, a⟩
theorem Vw.dp {K : PySem.W.Frag} {B H : Hp} {v : V} {d : PyData} (x : Vw K B H v d) (u : Up B H) : Dp K H v d := by
  rcases x with x | ⟨a, vs, ds, rfl, rfl, s, q⟩
  · exact Dp.up u x
  · exact .lst s (DpAll.up u q)
theorem Vw.int {K : PySem.W.Frag} {B H : Hp} {v : V} {i : Int} (x : Vw K B H v (.int i)) : v = .int i := by
  rcases x with x | ⟨a, vs, ds, _, e, _⟩
  · cases x; rfl
  · cases e
theorem Vw.bl {K : PySem.W.Frag} {B H : Hp} {v : V} {i : Bool} (x : Vw K B H v (.bool i)) : v = .bl i := by
  rcases x with x | ⟨a, vs, ds, _, e, _⟩
  · cases x; rfl
  · cases e
theorem Vw.str {K : PySem.W.Frag} {B H : Hp} {v : V} {i : Str} (x : Vw K B H v (.str i)) : v = .str i := by
  rcases x with x | ⟨a, vs, ds, _, e, _⟩
  · cases x; rfl
  · cases e
theorem Vw.non {K : PySem.W.Frag} {B H : Hp} {v : V} (x : Vw K B H v .none) : v = .non := by
  rcases x with x | ⟨a, vs, ds, _, e, _⟩
  · cases x; rfl
  · cases e
theorem Vw.lst {K : PySem.W.Frag} {B H : Hp} {v : V} {ds : List PyData} (u : Up B H) (x : Vw K B H v (.list ds)) : ∃ a vs, v = .ref a ∧ SqL K H a vs ∧ DpAll K B vs ds := by
  rcases x with x | ⟨a, vs, ds, rfl, e, s, q⟩
  · cases x with
    | lst s q => exact ⟨_, _, rfl, up_l u s, q⟩
  · cases e; exact ⟨a, vs, rfl, s, q⟩
theorem Vw.tup {K : PySem.W.Frag} {B H : Hp} {v : V} {ds : List PyData} (u : Up B H) (x : Vw K B H v (.tuple ds)) : ∃ a vs, v = .ref a ∧ SqT K B a vs ∧ SqT K H a vs ∧ DpAll K B vs ds := by
  rcases x with x | ⟨a, vs, ds, rfl, e, s, q⟩
  · cases x with
    | tup s q => exact ⟨_, _, rfl, s, up_t u s, q⟩
  · cases e
/-- what an operation makes -/
inductive Mk (K : PySem.W.Frag) (B H : Hp) : Rv → V → Hp → Hp → Prop
  | sc {v : V} {dd : PyData} : Dp K B v dd → Mk K B H (.d dd) v B H
  | ld {p : Addr} {o : HO} {dd : PyData} : H p = none → Dp K (upd B p o) (.ref p) dd → Mk K B H (.d dd) (.ref p) (upd B p o) (upd H p o)
  | nw {p : Addr} {vs : List V} {ds : List PyData} : H p = none → DpAll K B vs ds → Mk K B H (.n ds) (.ref p) B (upd H p (.lst vs))
theorem Mk.go {K : PySem.W.Frag} {B0 H0 B H B' H' : Hp} {ρ0 ρ : Rho} {σ : L2.St} {z : Rv} {v : V} (m : Mk K B H z v B' H') (g : Go B0 ρ0 H0 B ρ H) (R : Rel K B ρ σ H) : Go B0 ρ0 H0 B' ρ H' ∧ Rel K B' ρ σ H' ∧ VOk K H0 B' ρ H' v z := by
  cases m with
  | sc h => exact ⟨g, R, h⟩
  | ld hp h => exact ⟨g.laid R.up hp, R.laid hp, h⟩
  | @nw p vs ds hp h =>
    refine ⟨g.put hp, R.put hp, p, vs, rfl, ?_, none_up R.up hp, fun z => ?_, upd_same, h⟩
    · cases e : H0 p with
      | none => rfl
      | some o => exact absurd hp (g.th p (by rw [e]; exact fun z => nomatch z))
    · obtain ⟨_, ws, q⟩ := R.own_there z
      rw [hp] at q; cases q

abbrev Xf := List (Str × PyData)
/-- an exception: its class, its fields -/
def XOk (K : PySem.W.Frag) (B _H : Hp) (cls : Value) (d : Option Addr) (c : Value) (fs : Xf) : Prop := cls = c ∧ XdB K B d fs
abbrev WY := Value → Xf → Rho → Prop

/-- an expression's weakest reading -/
def sE (X : Cx) (e : Expr) : TE := fun σ H Q => ∀ pins s, Inv X pins σ H s → wpAny (model X.prog X.w) X.A (eval e X.env) (EP X pins σ Q) X.xe s
theorem pe_sE {X : Cx} {e : Expr} : PE X e (sE X e) := ⟨fun pins s _ _ _ I h => h pins s I⟩
def sT (X : Cx) (e : Expr) : TT := fun σ H Q => ∀ pins s, Inv X pins σ H s → wpAny (model X.prog X.w) X.A (isTrue e X.env (eval e X.env)) (TP X pins σ Q) X.xe s
theorem pt_sT {X : Cx} {e : Expr} : PT X e (sT X e) := ⟨fun pins s _ _ _ I h => h pins s I⟩
def sA (X : Cx) (es : List Expr) : TA := fun σ H Q => ∀ (pos : Pos) pins s, Inv X pins σ H s → wpAny (model X.prog X.w) X.A (spliced (backTo pos (starEach es X.env))) (AP X pins σ Q) X.xe s
theorem pa_sA {X : Cx} {es : List Expr} : PA X es (sA X es) := ⟨fun pos pins s _ _ _ I h => h pos pins s I⟩
def sS (X : Cx) (sts : List Stmt) : TS := fun D σ H => ∀ pins s, Inv X pins σ H s → wpAny (model X.prog X.w) X.A (execs sts X.env) (SP X pins D) X.xe s
theorem pss_sS {X : Cx} {sts : List Stmt} : PSs X sts (sS X sts) := ⟨fun pins s _ _ _ I h => h pins s I⟩
def sS1 (X : Cx) (st : Stmt) : TS := fun D σ H => ∀ pins s, Inv X pins σ H s → wpAny (model X.prog X.w) X.A (exec st X.env) (SP X pins D) X.xe s
theorem ps_sS1 {X : Cx} {st : Stmt} : PS X st (sS1 X st) := ⟨fun pins s _ _ _ I h => h pins s I⟩

/-- what is wanted of exceptions -/
def Xw (X : Cx) (Y : WY) (Wx : WX) (σ : L2.St) (B : Hp) (ρ : Rho) (H : Hp) : Prop := ∀ cls d c fs B' ρ' σ' H', σ'.length = σ.length → Go B ρ H B' ρ' H' → Rel X.K B' ρ' σ' H' → XOk X.K B' H' cls d c fs → Y c fs ρ' → Wx cls d σ' H'
theorem Xw.on {X : Cx} {Y : WY} {Wx : WX} {σ σ1 : L2.St} {B H B1 H1 : Hp} {ρ ρ1 : Rho} (x : Xw X Y Wx σ B ρ H) (g : Go B ρ H B1 ρ1 H1) (hl : σ1.length = σ.length) : Xw X Y Wx σ1 B1 ρ1 H1 := fun cls d c fs B' ρ' σ' H' hl' g' R' xo y => x cls d c fs B' ρ' σ' H' (hl'.trans hl) (g.trans g') R' xo y
/-- what is wanted of a value -/
def Vw' (X : Cx) (R : Rv → Rho → Prop) (Q : VK) (σ : L2.St) (B : Hp) (ρ : Rho) (H : Hp) : Prop := ∀ v r B' ρ' H', Go B ρ H B' ρ' H' → Rel X.K B' ρ' σ H' → VOk X.K H B' ρ' H' v r → R r ρ' → Q v H'

/-- THE READING: e, from a state as ρ tells, comes to a value of which R holds, or to an exception of which Y holds -/
def WE (X : Cx) (Y : WY) (e : Expr) (ρ : Rho) (R : Rv → Rho → Prop) : Prop :=
  ∀ (σ : L2.St) (H B : Hp) (Q : VK) (Wx : WX), Takes X Wx → Rel X.K B ρ σ H → Vw' X R Q σ B ρ H → Xw X Y Wx σ B ρ H → sE X e σ H Q
def WT (X : Cx) (Y : WY) (e : Expr) (ρ : Rho) (R : Bool → Rho → Prop) : Prop :=
  ∀ (σ : L2.St) (H B : Hp) (Q : Bool → Hp → Prop) (Wx : WX), Takes X Wx → Rel X.K B ρ σ H → (∀ b B' ρ' H', Go B ρ H B' ρ' H' → Rel X.K B' ρ' σ H' → R b ρ' → Q b H') → Xw X Y Wx σ B ρ H → sT X e σ H Q
/-- several values -/
inductive VsOk (K : PySem.W.Frag) (H0 B : Hp) (ρ : Rho) (H : Hp) : List V → List Rv → Prop
  | nil : VsOk K H0 B ρ H [] []
  | cons {v : V} {r : Rv} {vs : List V} {rs : List Rv} : VOk K H0 B ρ H v r → VsOk K H0 B ρ H vs rs → VsOk K H0 B ρ H (v :: vs) (r :: rs)
/-- no later new list stands at p; new lists stand apart -/
def NoNew (p : Addr) (vs : List V) (rs : List Rv) : Prop := ∀ (k : Nat) (w : V) (ws : List PyData), vs[k]? = some w → rs[k]? = some (.n ws) → w ≠ .ref p
inductive Apart : List V → List Rv → Prop
  | nil : Apart [] []
  | cons {v : V} {r : Rv} {vs : List V} {rs : List Rv} : (∀ p ds, r = .n ds → v = .ref p → NoNew p vs rs) → Apart vs rs → Apart (v :: vs) (r :: rs)
theorem VsOk.noNew {K : PySem.W.Frag} {H0 B : Hp} {ρ : Rho} {H : Hp} {p : Addr} (hp : H0 p ≠ none) : ∀ {vs : List V} {rs : List Rv}, VsOk K H0 B ρ H vs rs → NoNew p vs rs
  | _, _, .nil => fun k w ws h _ => by simp at h
  | _, _, .cons x t => fun k w ws h1 h2 => by
    cases k with
    | zero =>
      simp at h1 h2
      subst h1 h2
      obtain ⟨q, _, e, h0, _⟩ := x
      intro z
      rw [e] at z
      cases z
      exact hp h0
    | succ k => exact VsOk.noNew hp t k w ws (by simpa using h1) (by simpa using h2)
def WA (X : Cx) (Y : WY) (es : List Expr) (ρ : Rho) (R : List Rv → Rho → Prop) : Prop :=
  ∀ (σ : L2.St) (H B : Hp) (Q : List V → Hp → Prop) (Wx : WX), Takes X Wx → Rel X.K B ρ σ H → (∀ vs rs B' ρ' H', Go B ρ H B' ρ' H' → Rel X.K B' ρ' σ H' → VsOk X.K H B' ρ' H' vs rs → Apart vs rs → R rs ρ' → Q vs H') → Xw X Y Wx σ B ρ H → sA X es σ H Q

section
variable {X : Cx} {Y : WY} {ρ : Rho} {R : Rv → Rho → Prop} {a b c e : Expr} {pos : Pos}
theorem WE.run {σ : L2.St} {H B : Hp} {Q : VK} {Wx : WX} (h : WE X Y e ρ R) (tk : Takes X Wx) (r : Rel X.K B ρ σ H) (q : Vw' X R Q σ B ρ H) (x : Xw X Y Wx σ B ρ H) : sE X e σ H Q := h σ H B Q Wx tk r q x
theorem WE.of {t : TE} (p : PE X e t) (h : ∀ (σ : L2.St) (H B : Hp) (Q : VK) (Wx : WX), Takes X Wx → Rel X.K B ρ σ H → Vw' X R Q σ B ρ H → Xw X Y Wx σ B ρ H → t σ H Q) : WE X Y e ρ R :=
  fun σ H B Q Wx tk r q x pins s I => p.run pins s σ H Q I (h σ H B Q Wx tk r q x)
theorem WE.imp {R' : Rv → Rho → Prop} (h : WE X Y e ρ R') (i : ∀ r ρ', R' r ρ' → R r ρ') : WE X Y e ρ R :=
  fun σ H B Q Wx tk r q x => h σ H B Q Wx tk r (fun v r' B' ρ' H' g rl vo y => q v r' B' ρ' H' g rl vo (i _ _ y)) x
/-- nothing made -/
theorem Vw'.here {Q : VK} {σ : L2.St} {B H : Hp} {v : V} {d : PyData} (q : Vw' X R Q σ B ρ H) (r : Rel X.K B ρ σ H) (x : Dp X.K B v d) (y : R (.d d) ρ) : Q v H := q v (.d d) B ρ H (Go.refl _ _ _) r x y
theorem we_int {i : Int} {j : Nat} (h : R (.d (.int i)) ρ) : WE X Y (.Constant (.int i) j pos) ρ R := WE.of pe_int fun _ _ _ _ _ _ r q _ => q.here r (.int i) h
theorem we_bl {i : Bool} {j : Nat} (h : R (.d (.bool i)) ρ) : WE X Y (.Constant (.bool i) j pos) ρ R := WE.of pe_bl fun _ _ _ _ _ _ r q _ => q.here r (.bl i) h
theorem we_non {j : Nat} (h : R (.d .none) ρ) : WE X Y (.Constant .none j pos) ρ R := WE.of pe_non fun _ _ _ _ _ _ r q _ => q.here r .non h
theorem we_str {i : Str} {j : Nat} (h : R (.d (.str i)) ρ) : WE X Y (.Constant (.str i) j pos) ρ R := WE.of pe_str fun _ _ _ _ _ _ r q _ => q.here r (.str i) h
/-- a name whose slot holds data -/
theorem we_var {x : Str} (i : Nat) (d : PyData) (hN : X.N[i]? = some x) (hv : Vis X.env.scope x) (hd : (x == ("__debug__" : Str)) = false) (hcd : (x == ("__classdict__" : Str)) = false) (hs : ρ[i]? = some (.dat d)) (h : R (.d d) ρ) : WE X Y (.Name x pos) ρ R :=
  WE.of (pe_var hN hv hd hcd) fun σ H B Q Wx _ r q _ => by
    have hi : i < σ.length := by rw [← r.len]; exact (List.getElem?_eq_some_iff.mp hs).1
    obtain ⟨v, ev, dv⟩ := r.sl i _ _ hs (List.getElem?_eq_getElem hi)
    exact ⟨v, (List.getElem?_eq_getElem hi).trans (congrArg some ev), q.here r dv h⟩
/-- a name whose slot owns a list, borrowed -/
theorem we_bor {x : Str} (i : Nat) (p : Addr) (ds : List PyData) (hN : X.N[i]? = some x) (hv : Vis X.env.scope x) (hd : (x == ("__debug__" : Str)) = false) (hcd : (x == ("__classdict__" : Str)) = false) (hs : ρ[i]? = some (.own p ds)) (h : R (.b i ds) ρ) : WE X Y (.Name x pos) ρ R :=
  WE.of (pe_var hN hv hd hcd) fun σ H B Q Wx _ r q _ => by
    have hi : i < σ.length := by rw [← r.len]; exact (List.getElem?_eq_some_iff.mp hs).1
    obtain ⟨ev, _⟩ := r.sl i _ _ hs (List.getElem?_eq_getElem hi)
    exact ⟨.ref p, (List.getElem?_eq_getElem hi).trans (congrArg some ev), q (.ref p) (.b i ds) B ρ H (Go.refl _ _ _) r ⟨p, rfl, hs⟩ h⟩

/-- an operation of two values, by its rule over data -/
def Op2 (r : L2.Cx → R2) (S : PyData → PyData → Rv → Prop) : Prop := ∀ (X : Cx) (B H : Hp) (x y : V) (d e : PyData) (z : Rv) (Q : VK), S d e z → Up B H → Vw X.K B H x d → Vw X.K B H y e → (∀ v B' H', Mk X.K B H z v B' H' → Q v H') → r X x y H Q
theorem we_op2 {op : Operator} {r : L2.Cx → R2} {S : PyData → PyData → Rv → Prop} (ho : OpR X (binaryOp op) (r X)) (hS : Op2 r S)
    (h : WE X Y a ρ fun x ρ1 => WE X Y b ρ1 fun y ρ2 => Cur ρ1 ρ2 x ∧ ∃ z, S x.dt y.dt z ∧ R z ρ2) : WE X Y (.BinOp a op b pos) ρ R :=
  WE.of (pe_op ho pe_sE pe_sE) fun σ H B Q Wx tk rl q x => h.run tk rl (fun v1 r1 B1 ρ1 H1 g1 rl1 vo1 hb => hb.run tk rl1 (fun v2 r2 B2 ρ2 H2 g2 rl2 vo2 hz => by
    obtain ⟨cu, z, hs, hr⟩ := hz
    refine hS X B2 H2 v1 v2 _ _ z Q hs rl2.up ((vo1.on g2 cu).vw rl2) (vo2.vw rl2) fun v B' H' m => ?_
    obtain ⟨g3, rl3, vo3⟩ := m.go (g1.trans g2) rl2
    exact q v z B' ρ2 H' g3 rl3 vo3 hr) (x.on g1 rfl)) x
theorem we_cmp {op : CmpOp} {r : L2.Cx → R2} {S : PyData → PyData → Rv → Prop} (ho : OpR X (compareOp op) (r X)) (hS : Op2 r S) (hm : behindInMarks op b = false)
    (h : WE X Y a ρ fun x ρ1 => WE X Y b ρ1 fun y ρ2 => Cur ρ1 ρ2 x ∧ ∃ z, S x.dt y.dt z ∧ R z ρ2) : WE X Y (.Compare a [op] [b] pos) ρ R :=
  WE.of (pe_cmpR ho pe_sE pe_sE hm) fun σ H B Q Wx tk rl q x => h.run tk rl (fun v1 r1 B1 ρ1 H1 g1 rl1 vo1 hb => hb.run tk rl1 (fun v2 r2 B2 ρ2 H2 g2 rl2 vo2 hz => by
    obtain ⟨cu, z, hs, hr⟩ := hz
    refine hS X B2 H2 v1 v2 _ _ z Q hs rl2.up ((vo1.on g2 cu).vw rl2) (vo2.vw rl2) fun v B' H' m => ?_
    obtain ⟨g3, rl3, vo3⟩ := m.go (g1.trans g2) rl2
    exact q v z B' ρ2 H' g3 rl3 vo3 hr) (x.on g1 rfl)) x
end
end Bs
set_option maxHeartbeats 2000000
namespace Bs
open PySem PySem.Spec PyProof.Rows L2

theorem VsOk.on {K : PySem.W.Frag} {H0 B1 H1 B2 H2 : Hp} {ρ1 ρ2 : Rho} : ∀ {vs : List V} {rs : List Rv}, VsOk K H0 B1 ρ1 H1 vs rs → Go B1 ρ1 H1 B2 ρ2 H2 → (∀ r ∈ rs, Cur ρ1 ρ2 r) → VsOk K H0 B2 ρ2 H2 vs rs
  | _, _, .nil, _, _ => .nil
  | _, _, .cons h t, g, c => .cons (h.on g (c _ List.mem_cons_self)) (t.on g fun r hr => c r (List.mem_cons_of_mem _ hr))
theorem VsOk.org {K : PySem.W.Frag} {B0 H0 B H B1 H1 : Hp} {ρ0 ρ ρ1 : Rho} : ∀ {vs : List V} {rs : List Rv}, VsOk K H B1 ρ1 H1 vs rs → Go B0 ρ0 H0 B ρ H → VsOk K H0 B1 ρ1 H1 vs rs
  | _, _, .nil, _ => .nil
  | _, _, .cons h t, g => .cons (h.org g) (t.org g)

section
variable {X : Cx} {Y : WY} {ρ : Rho} {R : Rv → Rho → Prop} {RT : Bool → Rho → Prop} {RA : List Rv → Rho → Prop} {a b c e : Expr} {es rest : List Expr} {pos : Pos}
theorem wa_nil (h : RA [] ρ) : WA X Y [] ρ RA := fun σ H B Q Wx tk rl q x => by
  have h1 : tNil σ H Q := q [] [] B ρ H (Go.refl _ _ _) rl .nil .nil h
  exact fun pos pins s I => pa_nil.run pos pins s σ H Q I h1
theorem wa_cons (hs : starEach (e :: es) X.env = (false, eval e X.env) :: starEach es X.env) (h : WE X Y e ρ fun x ρ1 => WA X Y es ρ1 fun xs ρ2 => Cur ρ1 ρ2 x ∧ RA (x :: xs) ρ2) : WA X Y (e :: es) ρ RA := fun σ H B Q Wx tk rl q x => by
  have h1 : tCons (sE X e) (sA X es) σ H Q := h.run tk rl (fun v1 r1 B1 ρ1 H1 g1 rl1 vo1 hb => hb σ H1 B1 _ Wx tk rl1 (fun vs rs B2 ρ2 H2 g2 rl2 vo2 ap hz =>
    q (v1 :: vs) (r1 :: rs) B2 ρ2 H2 (g1.trans g2) rl2 (.cons (vo1.on g2 hz.1) (vo2.org g1)) (.cons (fun p ds er ev => vo2.noNew (by
      rw [er] at vo1
      obtain ⟨p', us, e', _, _, _, hp, _⟩ := vo1
      rw [ev] at e'
      cases e'
      rw [hp]
      exact fun z => nomatch z)) ap) hz.2) (x.on g1 rfl)) x
  exact fun pos pins s I => (pa_cons pe_sE pa_sA hs).run pos pins s σ H Q I h1
theorem WT.of {t : TT} (p : PT X e t) (h : ∀ (σ : L2.St) (H B : Hp) (Q : Bool → Hp → Prop) (Wx : WX), Takes X Wx → Rel X.K B ρ σ H → (∀ b B' ρ' H', Go B ρ H B' ρ' H' → Rel X.K B' ρ' σ H' → RT b ρ' → Q b H') → Xw X Y Wx σ B ρ H → t σ H Q) : WT X Y e ρ RT :=
  fun σ H B Q Wx tk r q x pins s I => p.run pins s σ H Q I (h σ H B Q Wx tk r q x)
/-! ### tests -/
/-- a comparison as a test -/
theorem wt_cmp {op : CmpOp} {r : L2.Cx → R2} {S : PyData → PyData → Rv → Prop} (ho : OpR X (compareOp op) (r X)) (hS : Op2 r S) (hm : behindInMarks op b = false)
    (h : WE X Y a ρ fun x ρ1 => WE X Y b ρ1 fun y ρ2 => Cur ρ1 ρ2 x ∧ ∃ k, S x.dt y.dt (.d (.bool k)) ∧ RT k ρ2) : WT X Y (.Compare a [op] [b] pos) ρ RT :=
  WT.of (pt_cmpR ho pe_sE pe_sE hm) fun σ H B Q Wx tk rl q x => h.run tk rl (fun v1 r1 B1 ρ1 H1 g1 rl1 vo1 hb => hb.run tk rl1 (fun v2 r2 B2 ρ2 H2 g2 rl2 vo2 hz => by
    obtain ⟨cu, k, hs, hr⟩ := hz
    refine hS X B2 H2 v1 v2 _ _ _ _ hs rl2.up ((vo1.on g2 cu).vw rl2) (vo2.vw rl2) fun v B' H' m => ?_
    obtain ⟨g3, rl3, vo3⟩ := m.go (g1.trans g2) rl2
    have e1 : v = .bl k := by cases vo3 with | bl b => rfl
    exact ⟨k, e1, q k B' ρ2 H' g3 rl3 hr⟩) (x.on g1 rfl)) x
/-- a op1 b op2 c, the middle a scalar or data -/
theorem wt_chain {op op' : CmpOp} {r r' : L2.Cx → R2} {S S' : PyData → PyData → Rv → Prop} (ho : OpR X (compareOp op) (r X)) (ho' : OpR X (compareOp op') (r' X)) (hS : Op2 r S) (hS' : Op2 r' S') (hm : lastMarks [op, op'] [b, c] = false)
    (h : WE X Y a ρ fun x ρ1 => WE X Y b ρ1 fun y ρ2 => Cur ρ1 ρ2 x ∧ ∃ k, S x.dt y.dt (.d (.bool k)) ∧ (k = true → WE X Y c ρ2 fun z ρ3 => Cur ρ2 ρ3 y ∧ ∃ k, S' y.dt z.dt (.d (.bool k)) ∧ RT k ρ3) ∧ (k = false → RT false ρ2)) : WT X Y (.Compare a [op, op'] [b, c] pos) ρ RT :=
  WT.of (pt_chain ho ho' pe_sE pe_sE pe_sE hm) fun σ H B Q Wx tk rl q x => h.run tk rl (fun v1 r1 B1 ρ1 H1 g1 rl1 vo1 hb => hb.run tk rl1 (fun v2 r2 B2 ρ2 H2 g2 rl2 vo2 hz => by
    obtain ⟨cu, k, hs, ht, hf⟩ := hz
    refine hS X B2 H2 v1 v2 _ _ _ _ hs rl2.up ((vo1.on g2 cu).vw rl2) (vo2.vw rl2) fun v B3 H3 m => ?_
    obtain ⟨g3, rl3, vo3⟩ := m.go (g1.trans g2) rl2
    have e1 : v = .bl k := by cases vo3 with | bl b => rfl
    obtain ⟨g23, _, _⟩ := m.go (Go.refl B2 ρ2 H2) rl2
    refine ⟨k, e1, ?_⟩
    cases k with
    | false => exact ⟨false, rfl, q false B3 ρ2 H3 g3 rl3 (hf rfl)⟩
    | true =>
      show sE X c σ H3 _
      have vo2' : VOk X.K H1 B3 ρ2 H3 v2 r2 := vo2.on g23 (by cases r2 <;> first | trivial | exact fun p h => h)
      refine (ht rfl).run tk rl3 (fun v4 r4 B4 ρ4 H4 g4 rl4 vo4 hz4 => ?_) ((x.on g1 rfl).on (g2.trans g23) rfl)
      obtain ⟨cu4, k4, hs4, hr4⟩ := hz4
      refine hS' X B4 H4 v2 v4 _ _ _ _ hs4 rl4.up ((vo2'.on g4 cu4).vw rl4) (vo4.vw rl4) fun v' B5 H5 m5 => ?_
      obtain ⟨g5, rl5, vo5⟩ := m5.go (g3.trans g4) rl4
      have e5 : v' = .bl k4 := by cases vo5 with | bl b => rfl
      exact ⟨k4, e5, q k4 B5 ρ4 H5 g5 rl5 hr4⟩) (x.on g1 rfl)) x
theorem we_chain {op op' : CmpOp} {r r' : L2.Cx → R2} {S S' : PyData → PyData → Rv → Prop} (ho : OpR X (compareOp op) (r X)) (ho' : OpR X (compareOp op') (r' X)) (hS : Op2 r S) (hS' : Op2 r' S') (hm : lastMarks [op, op'] [b, c] = false)
    (h : WE X Y a ρ fun x ρ1 => WE X Y b ρ1 fun y ρ2 => Cur ρ1 ρ2 x ∧ ∃ k, S x.dt y.dt (.d (.bool k)) ∧ (k = true → WE X Y c ρ2 fun z ρ3 => Cur ρ2 ρ3 y ∧ ∃ k, S' y.dt z.dt (.d (.bool k)) ∧ R (.d (.bool k)) ρ3) ∧ (k = false → R (.d (.bool false)) ρ2)) : WE X Y (.Compare a [op, op'] [b, c] pos) ρ R :=
  WE.of (pe_chain ho ho' pe_sE pe_sE pe_sE hm) fun σ H B Q Wx tk rl q x => h.run tk rl (fun v1 r1 B1 ρ1 H1 g1 rl1 vo1 hb => hb.run tk rl1 (fun v2 r2 B2 ρ2 H2 g2 rl2 vo2 hz => by
    obtain ⟨cu, k, hs, ht, hf⟩ := hz
    refine hS X B2 H2 v1 v2 _ _ _ _ hs rl2.up ((vo1.on g2 cu).vw rl2) (vo2.vw rl2) fun v B3 H3 m => ?_
    obtain ⟨g3, rl3, vo3⟩ := m.go (g1.trans g2) rl2
    have e1 : v = .bl k := by cases vo3 with | bl b => rfl
    obtain ⟨g23, _, _⟩ := m.go (Go.refl B2 ρ2 H2) rl2
    refine ⟨k, e1, ?_⟩
    cases k with
    | false => exact q (.bl false) (.d (.bool false)) B3 ρ2 H3 g3 rl3 (Dp.bl false) (hf rfl)
    | true =>
      show sE X c σ H3 _
      have vo2' : VOk X.K H1 B3 ρ2 H3 v2 r2 := vo2.on g23 (by cases r2 <;> first | trivial | exact fun p h => h)
      refine (ht rfl).run tk rl3 (fun v4 r4 B4 ρ4 H4 g4 rl4 vo4 hz4 => ?_) ((x.on g1 rfl).on (g2.trans g23) rfl)
      obtain ⟨cu4, k4, hs4, hr4⟩ := hz4
      refine hS' X B4 H4 v2 v4 _ _ _ _ hs4 rl4.up ((vo2'.on g4 cu4).vw rl4) (vo4.vw rl4) fun v' B5 H5 m5 => ?_
      obtain ⟨g5, rl5, vo5⟩ := m5.go (g3.trans g4) rl4
      exact q v' _ B5 ρ4 H5 g5 rl5 vo5 hr4) (x.on g1 rfl)) x
/-- and, or, not -/
def sW (X : Cx) (e : Expr) : TT := fun σ H Q => ∀ (whole : Sem Value) pins s, Inv X pins σ H s → wpAny (model X.prog X.w) X.A (isTrue e X.env whole) (TP X pins σ Q) X.xe s
theorem pw_sW {e : Expr} : PW X e (sW X e) := ⟨fun w pins s _ _ _ I h => h w pins s I⟩
def WW (X : Cx) (Y : WY) (e : Expr) (ρ : Rho) (R : Bool → Rho → Prop) : Prop :=
  ∀ (σ : L2.St) (H B : Hp) (Q : Bool → Hp → Prop) (Wx : WX), Takes X Wx → Rel X.K B ρ σ H → (∀ b B' ρ' H', Go B ρ H B' ρ' H' → Rel X.K B' ρ' σ H' → R b ρ' → Q b H') → Xw X Y Wx σ B ρ H → sW X e σ H Q
theorem wt_ww (h : WW X Y e ρ RT) : WT X Y e ρ RT := fun σ H B Q Wx tk r q x pins s I => h σ H B Q Wx tk r q x _ pins s I
theorem ww_and1 (h : WT X Y a ρ RT) : WW X Y (.BoolOp .And [a] pos) ρ RT := fun σ H B Q Wx tk r q x w pins s I => (pw_and1 pt_sT).run w pins s σ H Q I (h σ H B Q Wx tk r q x)
theorem ww_or1 (h : WT X Y a ρ RT) : WW X Y (.BoolOp .Or [a] pos) ρ RT := fun σ H B Q Wx tk r q x w pins s I => (pw_or1 pt_sT).run w pins s σ H Q I (h σ H B Q Wx tk r q x)
theorem ww_and (h : WT X Y a ρ fun k ρ1 => (k = true → WW X Y (.BoolOp .And (b :: rest) pos) ρ1 RT) ∧ (k = false → RT false ρ1)) : WW X Y (.BoolOp .And (a :: b :: rest) pos) ρ RT := fun σ H B Q Wx tk r q x w pins s I =>
  (pw_and pt_sT pw_sW).run w pins s σ H Q I (h σ H B _ Wx tk r (fun k B1 ρ1 H1 g1 r1 hk => by
    cases k with
    | true => exact (hk.1 rfl) σ H1 B1 Q Wx tk r1 (fun b' B' ρ' H' g' rl' y => q b' B' ρ' H' (g1.trans g') rl' y) (x.on g1 rfl)
    | false => exact q false B1 ρ1 H1 g1 r1 (hk.2 rfl)) x)
theorem ww_or (h : WT X Y a ρ fun k ρ1 => (k = false → WW X Y (.BoolOp .Or (b :: rest) pos) ρ1 RT) ∧ (k = true → RT true ρ1)) : WW X Y (.BoolOp .Or (a :: b :: rest) pos) ρ RT := fun σ H B Q Wx tk r q x w pins s I =>
  (pw_or pt_sT pw_sW).run w pins s σ H Q I (h σ H B _ Wx tk r (fun k B1 ρ1 H1 g1 r1 hk => by
    cases k with
    | false => exact (hk.1 rfl) σ H1 B1 Q Wx tk r1 (fun b' B' ρ' H' g' rl' y => q b' B' ρ' H' (g1.trans g') rl' y) (x.on g1 rfl)
    | true => exact q true B1 ρ1 H1 g1 r1 (hk.2 rfl)) x)
theorem wt_not (h : WT X Y a ρ fun k ρ1 => RT (!k) ρ1) : WT X Y (.UnaryOp .Not a pos) ρ RT :=
  WT.of (pt_not pt_sT) fun σ H B Q Wx tk r q x => h σ H B _ Wx tk r (fun k B' ρ' H' g rl y => q (!k) B' ρ' H' g rl y) x
/-- truth of data -/
inductive Tru : PyData → Bool → Prop
  | non : Tru .none false
  | bl (b : Bool) : Tru (.bool b) b
  | int (i : Int) : Tru (.int i) (i != 0)
  | str (x : Str) (h : x.length ≤ sizeLine) : Tru (.str x) ((x.length : Int) != 0)
  | lst (ds : List PyData) : Tru (.list ds) (!ds.isEmpty)
  | tup (ds : List PyData) : Tru (.tuple ds) (!ds.isEmpty)
theorem emp_len {α β : Type} {xs : List α} {ys : List β} (h : xs.length = ys.length) : (!xs.isEmpty) = (!ys.isEmpty) := by
  cases xs <;> cases ys <;> first | rfl | (simp at h)
theorem Tru.v {K : PySem.W.Frag} {B H : Hp} {v : V} {d : PyData} {k : Bool} (t : Tru d k) (u : Up B H) (x : Vw K B H v d) : TruV K v H k := by
  cases t with
  | non => rw [x.non]; rfl
  | bl b => rw [x.bl]; rfl
  | int i => rw [x.int]; rfl
  | str s h => rw [x.str]; exact ⟨h, rfl⟩
  | lst ds =>
    obtain ⟨a, vs, rfl, s, q⟩ := x.lst u
    exact .inl ⟨vs, s, (emp_len (DpAll.len q)).symm⟩
  | tup ds =>
    obtain ⟨a, vs, rfl, _, s, q⟩ := x.tup u
    exact .inr (.inl ⟨vs, s, (emp_len (DpAll.len q)).symm⟩)
theorem wt_tru (he : ∀ whole, isTrue a X.env whole = (do let v ← whole; standAt a.pos; holding [v] (truthy v))) (h : WE X Y a ρ fun x ρ1 => ∃ k, Tru x.dt k ∧ RT k ρ1) : WT X Y a ρ RT :=
  WT.of (pt_truth pe_sE he) fun σ H B Q Wx tk rl q x => h.run tk rl (fun v r B1 ρ1 H1 g1 rl1 vo hk => by
    obtain ⟨k, t, hr⟩ := hk
    exact ⟨k, t.v rl1.up (vo.vw rl1), q k B1 ρ1 H1 g1 rl1 hr⟩) x
/-! ### and, or, not as values; if else -/
theorem we_and (h : WE X Y a ρ fun x ρ1 => ∃ k, x.dt = .bool k ∧ (k = true → WE X Y (.BoolOp .And (b :: rest) pos) ρ1 R) ∧ (k = false → R (.d (.bool false)) ρ1)) : WE X Y (.BoolOp .And (a :: b :: rest) pos) ρ R :=
  WE.of (pe_and pe_sE pe_sE) fun σ H B Q Wx tk rl q x => h.run tk rl (fun v r B1 ρ1 H1 g1 rl1 vo hk => by
    obtain ⟨k, e, ht, hf⟩ := hk
    have ev : v = .bl k := (by have w := vo.vw rl1; rw [e] at w; exact w.bl)
    refine ⟨k, ev, ?_⟩
    cases k with
    | true => exact (ht rfl).run tk rl1 (fun v' r' B' ρ' H' g' rl' vo' y => q v' r' B' ρ' H' (g1.trans g') rl' (vo'.org g1) y) (x.on g1 rfl)
    | false => exact q (.bl false) (.d (.bool false)) B1 ρ1 H1 g1 rl1 (Dp.bl false) (hf rfl)) x
theorem we_or (h : WE X Y a ρ fun x ρ1 => ∃ k, x.dt = .bool k ∧ (k = false → WE X Y (.BoolOp .Or (b :: rest) pos) ρ1 R) ∧ (k = true → R (.d (.bool true)) ρ1)) : WE X Y (.BoolOp .Or (a :: b :: rest) pos) ρ R :=
  WE.of (pe_or pe_sE pe_sE) fun σ H B Q Wx tk rl q x => h.run tk rl (fun v r B1 ρ1 H1 g1 rl1 vo hk => by
    obtain ⟨k, e, ht, hf⟩ := hk
    have ev : v = .bl k := (by have w := vo.vw rl1; rw [e] at w; exact w.bl)
    refine ⟨k, ev, ?_⟩
    cases k with
    | false => exact (ht rfl).run tk rl1 (fun v' r' B' ρ' H' g' rl' vo' y => q v' r' B' ρ' H' (g1.trans g') rl' (vo'.org g1) y) (x.on g1 rfl)
    | true => exact q (.bl true) (.d (.bool true)) B1 ρ1 H1 g1 rl1 (Dp.bl true) (hf rfl)) x
theorem we_one {op : BoolOp} (h : WE X Y a ρ R) : WE X Y (.BoolOp op [a] pos) ρ R := WE.of (pe_one pe_sE) fun σ H B Q Wx tk rl q x => h.run tk rl q x
theorem we_not (h : WE X Y a ρ fun x ρ1 => ∃ k, x.dt = .bool k ∧ R (.d (.bool (!k))) ρ1) : WE X Y (.UnaryOp .Not a pos) ρ R :=
  WE.of (pe_not pe_sE) fun σ H B Q Wx tk rl q x => h.run tk rl (fun v r B1 ρ1 H1 g1 rl1 vo hk => by
    obtain ⟨k, e, hr⟩ := hk
    have ev : v = .bl k := (by have w := vo.vw rl1; rw [e] at w; exact w.bl)
    exact ⟨k, ev, q (.bl (!k)) (.d (.bool (!k))) B1 ρ1 H1 g1 rl1 (Dp.bl _) hr⟩) x
theorem we_if (h : WT X Y c ρ fun k ρ1 => (k = true → WE X Y a ρ1 R) ∧ (k = false → WE X Y b ρ1 R)) : WE X Y (.IfExp c a b pos) ρ R :=
  WE.of (pe_ifExp pt_sT pe_sE pe_sE) fun σ H B Q Wx tk rl q x => h σ H B _ Wx tk rl (fun k B1 ρ1 H1 g1 rl1 hk => by
    cases k with
    | true => exact (hk.1 rfl).run tk rl1 (fun v' r' B' ρ' H' g' rl' vo' y => q v' r' B' ρ' H' (g1.trans g') rl' (vo'.org g1) y) (x.on g1 rfl)
    | false => exact (hk.2 rfl).run tk rl1 (fun v' r' B' ρ' H' g' rl' vo' y => q v' r' B' ρ' H' (g1.trans g') rl' (vo'.org g1) y) (x.on g1 rfl)) x
theorem we_neg (h : WE X Y a ρ fun x ρ1 => ∃ i, x.dt = .int i ∧ R (.d (.int (-i))) ρ1) : WE X Y (.UnaryOp .USub a pos) ρ R :=
  WE.of (pe_un un_neg pe_sE) fun σ H B Q Wx tk rl q x => h.run tk rl (fun v r B1 ρ1 H1 g1 rl1 vo hk => by
    obtain ⟨k, e, hr⟩ := hk
    have ev : v = .int k := (by have w := vo.vw rl1; rw [e] at w; exact w.int)
    exact ⟨k, ev, q (.int (-k)) (.d (.int (-k))) B1 ρ1 H1 g1 rl1 (Dp.int _) hr⟩) x
end
end Bs
set_option maxHeartbeats 2000000
namespace Bs
open PySem PySem.Spec PyProof.Rows L2

def Rv.nob : Rv → Prop
  | .b _ _ => False
  | _ => True
/-- every new list becomes data -/
theorem VsOk.freeze {K : PySem.W.Frag} {B0 H0 H : Hp} {ρ0 ρ : Rho} {σ : L2.St} : ∀ {vs : List V} {rs : List Rv} {B : Hp}, (∀ r ∈ rs, r.nob) → Go B0 ρ0 H0 B ρ H → Rel K B ρ σ H → VsOk K H0 B ρ H vs rs →
    ∃ B', Go B0 ρ0 H0 B' ρ H ∧ Rel K B' ρ σ H ∧ DpAll K B' vs (rs.map Rv.dt) ∧ Up B B'
  | _, _, B, _, g, R, .nil => ⟨B, g, R, .nil, Up.rfl' B⟩
  | v :: vs, r :: rs, B, nb, g, R, .cons x t => by
    obtain ⟨B1, g1, R1, h1, u1, hn1⟩ := VOk.freeze (fun i ds e => by have q := nb r List.mem_cons_self; rw [e] at q; exact q) g R x
    -- the others, at B1
    have more : ∀ {ws : List V} {ss : List Rv}, (∀ r ∈ ss, r.nob) → VsOk K H0 B ρ H ws ss → ∃ B', Go B0 ρ0 H0 B' ρ H ∧ Rel K B' ρ σ H ∧ DpAll K B' ws (ss.map Rv.dt) ∧ Up B1 B' := by
      intro ws ss ns ys
      -- generalize over any base between
      have gen : ∀ {ws : List V} {ss : List Rv} (B2 : Hp), (∀ r ∈ ss, r.nob) → VsOk K H0 B ρ H ws ss → Up B B2 → Go B0 ρ0 H0 B2 ρ H → Rel K B2 ρ σ H → ∃ B', Go B0 ρ0 H0 B' ρ H ∧ Rel K B' ρ σ H ∧ DpAll K B' ws (ss.map Rv.dt) ∧ Up B2 B' := by
        intro ws
        induction ws with
        | nil =>
          intro ss B2 _ y _ g2 R2
          cases y
          exact ⟨B2, g2, R2, .nil, Up.rfl' B2⟩
        | cons w ws ih =>
          intro ss B2 ns y u2 g2 R2
          cases y with
          | @cons _ r' _ rs' x' t' =>
            have one : ∃ B3, Go B0 ρ0 H0 B3 ρ H ∧ Rel K B3 ρ σ H ∧ Dp K B3 w r'.dt ∧ Up B2 B3 := by
              cases r' with
              | d dd => exact ⟨B2, g2, R2, Dp.up u2 x', Up.rfl' B2⟩
              | b i ds => exact False.elim (ns _ List.mem_cons_self)
              | n ds =>
                obtain ⟨p, us, rfl, h0, hb, no, hp, a⟩ := x'
                cases e : B2 p with
                | none =>
                  obtain ⟨B3, g3, R3, h3, u3, _⟩ := VOk.freeze (v := .ref p) (r := .n ds) (fun i ds e => nomatch e) g2 R2 ⟨p, us, rfl, h0, e, no, hp, DpAll.up u2 a⟩
                  exact ⟨B3, g3, R3, h3, u3⟩
                | some o =>
                  have e2 := R2.up p o e
                  rw [hp] at e2
                  cases e2
                  exact ⟨B2, g2, R2, .lst (.of e) (DpAll.up u2 a), Up.rfl' B2⟩
            obtain ⟨B3, g3, R3, h3, u3⟩ := one
            obtain ⟨B4, g4, R4, h4, u4⟩ := ih B3 (fun r hr => ns r (List.mem_cons_of_mem _ hr)) t' (u2.trans u3) g3 R3
            exact ⟨B4, g4, R4, .cons (Dp.up u4 h3) h4, u3.trans u4⟩
      exact gen B1 ns ys u1 g1 R1
    obtain ⟨B2, g2, R2, h2, u2⟩ := more (fun r hr => nb r (List.mem_cons_of_mem _ hr)) t
    exact ⟨B2, g2, R2, .cons (Dp.up u2 h1) h2, u1.trans u2⟩

/-- several values as rules see them -/
inductive VwA (K : PySem.W.Frag) (B H : Hp) : List V → List PyData → Prop
  | nil : VwA K B H [] []
  | cons {v : V} {d : PyData} {vs : List V} {ds : List PyData} : Vw K B H v d → VwA K B H vs ds → VwA K B H (v :: vs) (d :: ds)
theorem VsOk.vw {K : PySem.W.Frag} {H0 B H : Hp} {ρ : Rho} {σ : L2.St} (R : Rel K B ρ σ H) : ∀ {vs : List V} {rs : List Rv}, VsOk K H0 B ρ H vs rs → VwA K B H vs (rs.map Rv.dt)
  | _, _, .nil => .nil
  | _, _, .cons h t => .cons (h.vw R) (VsOk.vw R t)

section
variable {X : Cx} {Y : WY} {ρ : Rho} {R : Rv → Rho → Prop} {RT : Bool → Rho → Prop} {RA : List Rv → Rho → Prop} {a b c e : Expr} {es rest : List Expr} {pos p : Pos} {x : Str} {id T : String}
/-- a written tuple, a written list -/
theorem we_tup {k : Nat} (hl : es.length ≤ 100000) (h : WA X Y es ρ fun rs ρ1 => (∀ r ∈ rs, r.nob) ∧ rs.length ≤ 100000 ∧ R (.d (.tuple (rs.map Rv.dt))) ρ1) : WE X Y (.Tuple es k pos) ρ R :=
  WE.of (pe_tup pa_sA) fun σ H B Q Wx tk rl q x => h σ H B _ Wx tk rl (fun vs rs B1 ρ1 H1 g1 rl1 vo ap hk => by
    obtain ⟨nb, hz, hr⟩ := hk
    obtain ⟨B2, g2, rl2, da, u⟩ := vo.freeze nb g1 rl1
    have hlen : vs.length = rs.length := by have := DpAll.len da; rw [List.length_map] at this; exact this
    refine ⟨by rw [hlen]; exact Nat.le_trans hz (by decide), fun p hp => ?_⟩
    have m : Mk X.K B2 H1 (.d (.tuple (rs.map Rv.dt))) (.ref p) (upd B2 p (.tup vs)) (upd H1 p (.tup vs)) := .ld hp (.tup (.of upd_same) (DpAll.up (Up.new (none_up rl2.up hp)) da))
    obtain ⟨g3, rl3, vo3⟩ := m.go g2 rl2
    exact q _ _ _ ρ1 _ g3 rl3 vo3 hr) x
theorem we_lst (h : WA X Y es ρ fun rs ρ1 => (∀ r ∈ rs, r.nob) ∧ rs.length ≤ 100000 ∧ R (.n (rs.map Rv.dt)) ρ1) : WE X Y (.List es pos) ρ R :=
  WE.of (pe_lst pa_sA) fun σ H B Q Wx tk rl q x => h σ H B _ Wx tk rl (fun vs rs B1 ρ1 H1 g1 rl1 vo ap hk => by
    obtain ⟨nb, hz, hr⟩ := hk
    obtain ⟨B2, g2, rl2, da, u⟩ := vo.freeze nb g1 rl1
    have hlen : vs.length = rs.length := by have := DpAll.len da; rw [List.length_map] at this; exact this
    refine ⟨by rw [hlen]; exact Nat.le_trans hz (by decide), fun p hp => ?_⟩
    have m : Mk X.K B2 H1 (.n (rs.map Rv.dt)) (.ref p) B2 (upd H1 p (.lst vs)) := .nw hp da
    obtain ⟨g3, rl3, vo3⟩ := m.go g2 rl2
    exact q _ _ _ ρ1 _ g3 rl3 vo3 hr) x
/-- calls of built-ins by values -/
def OpN (r : L2.Cx → List V → Hp → VK → Prop) (S : List PyData → Rv → Prop) : Prop := ∀ (X : Cx) (B H : Hp) (vs : List V) (ds : List PyData) (z : Rv) (Q : VK), S ds z → Up B H → VwA X.K B H vs ds → (∀ v B' H', Mk X.K B H z v B' H' → Q v H') → r X vs H Q
theorem we_callB {r : L2.Cx → List V → Hp → VK → Prop} {S : List PyData → Rv → Prop} (hc : CallR X (.builtin id) (r X)) (hS : OpN r S) (hg : Gl X x) (hm : X.mg x = none) (hv : bootBuiltins x = some (.builtin id)) (hn : x ≠ "__name__") (hdb : (x == ("__debug__" : Str)) = false)
    (he : starEach (e :: es) X.env = (false, eval e X.env) :: starEach es X.env) (hpl : (backTo pos (starEach es X.env)).any (·.1) = false)
    (h : WA X Y (e :: es) ρ fun rs ρ1 => ∃ z, S (rs.map Rv.dt) z ∧ R z ρ1) : WE X Y (.Call (.Name x p) (e :: es) [] pos) ρ R :=
  WE.of (pe_callB hc hg hm hv pa_sA hn hdb he hpl) fun σ H B Q Wx tk rl q y => h σ H B _ Wx tk rl (fun vs rs B1 ρ1 H1 g1 rl1 vo ap hk => by
    obtain ⟨z, hs, hr⟩ := hk
    refine hS X B1 H1 vs _ z Q hs rl1.up (vo.vw rl1) fun v B' H' m => ?_
    obtain ⟨g3, rl3, vo3⟩ := m.go g1 rl1
    exact q v z B' ρ1 H' g3 rl3 vo3 hr) y
theorem we_callTy {r : L2.Cx → List V → Hp → VK → Prop} {S : List PyData → Rv → Prop} (hc : CallR X (.type T) (r X)) (hS : OpN r S) (hg : Gl X x) (hm : X.mg x = none) (hv : bootBuiltins x = some (.type T)) (hn : x ≠ "__name__") (hdb : (x == ("__debug__" : Str)) = false)
    (he : starEach (e :: es) X.env = (false, eval e X.env) :: starEach es X.env) (hpl : (backTo pos (starEach es X.env)).any (·.1) = false)
    (h : WA X Y (e :: es) ρ fun rs ρ1 => ∃ z, S (rs.map Rv.dt) z ∧ R z ρ1) : WE X Y (.Call (.Name x p) (e :: es) [] pos) ρ R :=
  WE.of (pe_callTy hc hg hm hv pa_sA hn hdb he hpl) fun σ H B Q Wx tk rl q y => h σ H B _ Wx tk rl (fun vs rs B1 ρ1 H1 g1 rl1 vo ap hk => by
    obtain ⟨z, hs, hr⟩ := hk
    refine hS X B1 H1 vs _ z Q hs rl1.up (vo.vw rl1) fun v B' H' m => ?_
    obtain ⟨g3, rl3, vo3⟩ := m.go g1 rl1
    exact q v z B' ρ1 H' g3 rl3 vo3 hr) y
/-- a subscript -/
theorem we_ix {r : L2.Cx → R2} {S : PyData → PyData → Rv → Prop} (ho : IxR X (r X)) (hS : Op2 r S) (hs : PlainIx b)
    (h : WE X Y a ρ fun x ρ1 => WE X Y b ρ1 fun y ρ2 => Cur ρ1 ρ2 x ∧ ∃ z, S x.dt y.dt z ∧ R z ρ2) : WE X Y (.Subscript a b pos) ρ R :=
  WE.of (pe_ix ho pe_sE pe_sE hs) fun σ H B Q Wx tk rl q x => h.run tk rl (fun v1 r1 B1 ρ1 H1 g1 rl1 vo1 hb => hb.run tk rl1 (fun v2 r2 B2 ρ2 H2 g2 rl2 vo2 hz => by
    obtain ⟨cu, z, hs, hr⟩ := hz
    refine hS X B2 H2 v1 v2 _ _ z Q hs rl2.up ((vo1.on g2 cu).vw rl2) (vo2.vw rl2) fun v B' H' m => ?_
    obtain ⟨g3, rl3, vo3⟩ := m.go (g1.trans g2) rl2
    exact q v z B' ρ2 H' g3 rl3 vo3 hr) (x.on g1 rfl)) x
end
end Bs
set_option maxHeartbeats 2000000
namespace Bs
open PySem PySem.Spec PyProof.Rows L2

structure Ed where
  nx : Rho → Prop
  rt : Rv → Rho → Prop
  bk : Rho → Prop := fun _ => False
  ct : Rho → Prop := fun _ => False
/-- the ends as the layer below wants them -/
structure EdOk (X : Cx) (D : Ed) (C : Ends) (σ : L2.St) (B : Hp) (ρ : Rho) (H : Hp) : Prop where
  nx : ∀ σ' B' ρ' H', σ'.length = σ.length → Go B ρ H B' ρ' H' → Rel X.K B' ρ' σ' H' → D.nx ρ' → C.nx σ' H'
  rt : ∀ v r σ' B' ρ' H', σ'.length = σ.length → Go B ρ H B' ρ' H' → Rel X.K B' ρ' σ' H' → VOk X.K H B' ρ' H' v r → D.rt r ρ' → C.rt v H'
  bk : ∀ σ' B' ρ' H', σ'.length = σ.length → Go B ρ H B' ρ' H' → Rel X.K B' ρ' σ' H' → D.bk ρ' → C.bk σ' H'
  ct : ∀ σ' B' ρ' H', σ'.length = σ.length → Go B ρ H B' ρ' H' → Rel X.K B' ρ' σ' H' → D.ct ρ' → C.ct σ' H'
theorem EdOk.on {X : Cx} {D : Ed} {C : Ends} {σ σ1 : L2.St} {B H B1 H1 : Hp} {ρ ρ1 : Rho} (x : EdOk X D C σ B ρ H) (g : Go B ρ H B1 ρ1 H1) (hl : σ1.length = σ.length) : EdOk X D C σ1 B1 ρ1 H1 :=
  ⟨fun σ' B' ρ' H' l g' => x.nx σ' B' ρ' H' (l.trans hl) (g.trans g'), fun v r σ' B' ρ' H' l g' R' vo => x.rt v r σ' B' ρ' H' (l.trans hl) (g.trans g') R' (vo.org g),
   fun σ' B' ρ' H' l g' => x.bk σ' B' ρ' H' (l.trans hl) (g.trans g'), fun σ' B' ρ' H' l g' => x.ct σ' B' ρ' H' (l.trans hl) (g.trans g')⟩
def WS (X : Cx) (Y : WY) (sts : List Stmt) (ρ : Rho) (D : Ed) : Prop :=
  ∀ (σ : L2.St) (H B : Hp) (C : Ends) (Wx : WX), Takes X Wx → Rel X.K B ρ σ H → EdOk X D C σ B ρ H → Xw X Y Wx σ B ρ H → sS X sts C σ H
def W1 (X : Cx) (Y : WY) (st : Stmt) (ρ : Rho) (D : Ed) : Prop :=
  ∀ (σ : L2.St) (H B : Hp) (C : Ends) (Wx : WX), Takes X Wx → Rel X.K B ρ σ H → EdOk X D C σ B ρ H → Xw X Y Wx σ B ρ H → sS1 X st C σ H

/-- a slot of the frame is stored -/
theorem Rel.setD {K : PySem.W.Frag} {B H : Hp} {ρ : Rho} {σ : L2.St} {i : Nat} {v : V} {d : PyData} (R : Rel K B ρ σ H) (h : Dp K B v d) : Rel K B (ρ.set i (.dat d)) (σ.set i (some v)) H where
  up := R.up
  len := by rw [List.length_set, List.length_set]; exact R.len
  sl := fun j s o e1 e2 => by
    by_cases hj : i = j
    · subst hj
      have h1 : i < ρ.length := by have := (List.getElem?_eq_some_iff.mp e1).1; rw [List.length_set] at this; exact this
      rw [List.getElem?_set_self h1] at e1
      rw [List.getElem?_set_self (by rw [← R.len]; exact h1)] at e2
      cases e1; cases e2
      exact ⟨v, rfl, h⟩
    · rw [List.getElem?_set_ne hj] at e1 e2
      exact R.sl j s o e1 e2
  one := fun j k p ds es e1 e2 => by
    have g : ∀ (j : Nat) (ds : List PyData), (ρ.set i (Sl.dat d))[j]? = some (Sl.own p ds) → ρ[j]? = some (Sl.own p ds) := fun j ds e => by
      by_cases hj : i = j
      · subst hj
        have h1 : i < ρ.length := by have := (List.getElem?_eq_some_iff.mp e).1; rw [List.length_set] at this; exact this
        rw [List.getElem?_set_self h1] at e; cases e
      · rw [List.getElem?_set_ne hj] at e; exact e
    exact R.one j k p ds es (g j ds e1) (g k es e2)
theorem nod {d : PyData} : ∀ (p : Addr) (ds : List PyData), Sl.dat d ≠ Sl.own p ds := fun p ds z => by cases z
theorem owns_setD {ρ : Rho} {i : Nat} {s : Sl} (hs : ∀ p ds, s ≠ .own p ds) {p : Addr} (h : p ∈ owns (ρ.set i s)) : p ∈ owns ρ := by
  obtain ⟨j, ds, e⟩ := mem_owns.mp h
  refine mem_owns.mpr ⟨j, ds, ?_⟩
  by_cases hj : i = j
  · subst hj
    have h1 : i < ρ.length := by have := (List.getElem?_eq_some_iff.mp e).1; rw [List.length_set] at this; exact this
    rw [List.getElem?_set_self h1] at e
    exact absurd (Option.some.inj e) (hs p ds)
  · rw [List.getElem?_set_ne hj] at e; exact e
theorem Go.setD {B0 H0 B H : Hp} {ρ0 ρ : Rho} {i : Nat} {s : Sl} (hs : ∀ p ds, s ≠ .own p ds) (g : Go B0 ρ0 H0 B ρ H) : Go B0 ρ0 H0 B (ρ.set i s) H := ⟨g.gr, g.fr, g.fm, fun p h => g.ow p (owns_setD hs h), g.th⟩
theorem Rel.setN {K : PySem.W.Frag} {B H : Hp} {ρ : Rho} {σ : L2.St} {i : Nat} {p : Addr} {vs : List V} {ds : List PyData} (R : Rel K B ρ σ H) (hb : B p = none) (no : p ∉ owns ρ) (hp : H p = some (.lst vs)) (h : DpAll K B vs ds) :
    Rel K B (ρ.set i (.own p ds)) (σ.set i (some (.ref p))) H where
  up := R.up
  len := by rw [List.length_set, List.length_set]; exact R.len
  sl := fun j s o e1 e2 => by
    by_cases hj : i = j
    · subst hj
      have h1 : i < ρ.length := by have := (List.getElem?_eq_some_iff.mp e1).1; rw [List.length_set] at this; exact this
      rw [List.getElem?_set_self h1] at e1
      rw [List.getElem?_set_self (by rw [← R.len]; exact h1)] at e2
      cases e1; cases e2
      exact ⟨rfl, hb, vs, hp, h⟩
    · rw [List.getElem?_set_ne hj] at e1 e2
      exact R.sl j s o e1 e2
  one := fun j k q es fs e1 e2 => by
    have g : ∀ (j : Nat) (es : List PyData), (ρ.set i (Sl.own p ds))[j]? = some (Sl.own q es) → (j = i ∧ q = p) ∨ (i ≠ j ∧ ρ[j]? = some (Sl.own q es)) := fun j es e => by
      by_cases hj : i = j
      · subst hj
        have h1 : i < ρ.length := by have := (List.getElem?_eq_some_iff.mp e).1; rw [List.length_set] at this; exact this
        rw [List.getElem?_set_self h1] at e; cases e
        exact .inl ⟨rfl, rfl⟩
      · rw [List.getElem?_set_ne hj] at e; exact .inr ⟨hj, e⟩
    rcases g j es e1 with ⟨rfl, rfl⟩ | ⟨n1, q1⟩
    · rcases g k fs e2 with ⟨rfl, _⟩ | ⟨n2, q2⟩
      · rfl
      · exact absurd (mem_owns.mpr ⟨k, fs, q2⟩) no
    · rcases g k fs e2 with ⟨rfl, rfl⟩ | ⟨n2, q2⟩
      · exact absurd (mem_owns.mpr ⟨j, es, q1⟩) no
      · exact R.one j k q es fs q1 q2
theorem owns_setN {ρ : Rho} {i : Nat} {p q : Addr} {ds : List PyData} (h : q ∈ owns (ρ.set i (.own p ds))) : q = p ∨ q ∈ owns ρ := by
  obtain ⟨j, es, e⟩ := mem_owns.mp h
  by_cases hj : i = j
  · subst hj
    have h1 : i < ρ.length := by have := (List.getElem?_eq_some_iff.mp e).1; rw [List.length_set] at this; exact this
    rw [List.getElem?_set_self h1] at e
    cases e
    exact .inl rfl
  · rw [List.getElem?_set_ne hj] at e
    exact .inr (mem_owns.mpr ⟨j, es, e⟩)
theorem Go.setN {B0 H0 B H : Hp} {ρ0 ρ : Rho} {i : Nat} {p : Addr} {ds : List PyData} (h0 : H0 p = none) (g : Go B0 ρ0 H0 B ρ H) : Go B0 ρ0 H0 B (ρ.set i (.own p ds)) H :=
  ⟨g.gr, g.fr, g.fm, fun q h => (owns_setN h).elim (fun e => Or.inr (by rw [e]; exact h0)) (g.ow q), g.th⟩
/-- what slot i holds behind a store -/
def putR (ρ : Rho) (i : Nat) (P : Rho → Prop) : Rv → Prop
  | .d x => P (ρ.set i (.dat x))
  | .n ds => ∀ p, p ∉ owns ρ → P (ρ.set i (.own p ds))
  | .b _ _ => False
theorem putR.go {K : PySem.W.Frag} {B0 H0 B H : Hp} {ρ0 ρ : Rho} {σ : L2.St} {i : Nat} {P : Rho → Prop} {r : Rv} {v : V} (h : putR ρ i P r) (g : Go B0 ρ0 H0 B ρ H) (R : Rel K B ρ σ H) (x : VOk K H0 B ρ H v r) :
    ∃ ρ', Go B0 ρ0 H0 B ρ' H ∧ Rel K B ρ' (σ.set i (some v)) H ∧ P ρ' := by
  cases r with
  | d d => exact ⟨_, g.setD nod, R.setD x, h⟩
  | n ds =>
    obtain ⟨p, vs, rfl, h0, hb, no, hp, a⟩ := x
    exact ⟨_, g.setN h0, R.setN hb no hp a, h p no⟩
  | b j ds => exact h.elim

section
variable {X : Cx} {Y : WY} {ρ : Rho} {D : Ed} {a b c e : Expr} {es rest : List Expr} {pos p pos' : Pos} {x y : Str} {st : Stmt} {sts s1 s2 : List Stmt}
theorem WS.run {σ : L2.St} {H B : Hp} {C : Ends} {Wx : WX} (h : WS X Y sts ρ D) (tk : Takes X Wx) (r : Rel X.K B ρ σ H) (q : EdOk X D C σ B ρ H) (x : Xw X Y Wx σ B ρ H) : sS X sts C σ H := h σ H B C Wx tk r q x
theorem W1.of {t : TS} (ps : PS X st t) (h : ∀ (σ : L2.St) (H B : Hp) (C : Ends) (Wx : WX), Takes X Wx → Rel X.K B ρ σ H → EdOk X D C σ B ρ H → Xw X Y Wx σ B ρ H → t C σ H) : W1 X Y st ρ D :=
  fun σ H B C Wx tk r q x pins s I => ps.run pins s σ H C I (h σ H B C Wx tk r q x)
theorem ws_nil (h : D.nx ρ) : WS X Y [] ρ D := fun σ H B C Wx tk r q x pins s I => (pss_nil (X := X)).run pins s σ H C I (q.nx σ B ρ H rfl (Go.refl _ _ _) r h)
theorem ws_cons (h : W1 X Y st ρ { D with nx := fun ρ1 => WS X Y sts ρ1 D }) : WS X Y (st :: sts) ρ D := fun σ H B C Wx tk r q x => by
  have h1 : tSeq (sS1 X st) (sS X sts) C σ H := h σ H B { C with nx := sS X sts C } Wx tk r
    ⟨fun σ' B' ρ' H' l g R' k => k.run tk R' (q.on g l) (x.on g l), q.rt, q.bk, q.ct⟩ x
  exact fun pins s I => (pss_cons ps_sS1 pss_sS).run pins s σ H C I h1
/-- behind the statement: a word of the rest -/
theorem ws_cut (M : Rho → Prop) (h : W1 X Y st ρ { D with nx := M }) (k : ∀ ρ1, M ρ1 → WS X Y sts ρ1 D) : WS X Y (st :: sts) ρ D := ws_cons (fun σ H B C Wx tk r q x => h σ H B C Wx tk r ⟨fun σ' B' ρ' H' l g R' m => q.nx σ' B' ρ' H' l g R' (k ρ' m), q.rt, q.bk, q.ct⟩ x)
theorem WS.imp {D' : Ed} (h : WS X Y sts ρ D') (i1 : ∀ ρ, D'.nx ρ → D.nx ρ) (i2 : ∀ r ρ, D'.rt r ρ → D.rt r ρ) (i3 : ∀ ρ, D'.bk ρ → D.bk ρ) (i4 : ∀ ρ, D'.ct ρ → D.ct ρ) : WS X Y sts ρ D :=
  fun σ H B C Wx tk r q x => h σ H B C Wx tk r ⟨fun σ' B' ρ' H' l g R' m => q.nx σ' B' ρ' H' l g R' (i1 _ m), fun v r σ' B' ρ' H' l g R' vo m => q.rt v r σ' B' ρ' H' l g R' vo (i2 _ _ m), fun σ' B' ρ' H' l g R' m => q.bk σ' B' ρ' H' l g R' (i3 _ m), fun σ' B' ρ' H' l g R' m => q.ct σ' B' ρ' H' l g R' (i4 _ m)⟩ x
theorem w1_set (i : Nat) (hN : X.N.Nodup) (hi : X.N[i]? = some x) (hx : Loc X.env.scope x) (hs : swapsWith e (some (.Name x pos')) pos.line X.env = pure false) (hf : X.fn x = true ∨ X.env.scope.names.lookup x = some .local)
    (h : WE X Y e ρ fun r ρ1 => putR ρ1 i D.nx r) : W1 X Y (.Assign [.Name x pos'] e pos) ρ D :=
  W1.of (ps_set hN hi hx pe_sE hs hf) fun σ H B C Wx tk rl q y => h.run tk rl (fun v r B1 ρ1 H1 g1 rl1 vo hp => by
    obtain ⟨ρ2, g2, rl2, hd⟩ := hp.go g1 rl1 vo
    exact q.nx _ B1 ρ2 H1 (List.length_set) g2 rl2 hd) y
theorem w1_ret (h : WE X Y e ρ fun r ρ1 => D.rt r ρ1) : W1 X Y (.Return (some e) pos) ρ D :=
  W1.of (ps_ret pe_sE) fun σ H B C Wx tk rl q y => h.run tk rl (fun v r B1 ρ1 H1 g1 rl1 vo hp => q.rt v r σ B1 ρ1 H1 rfl g1 rl1 vo hp) y
theorem w1_retN (h : D.rt (.d .none) ρ) : W1 X Y (.Return none pos) ρ D :=
  W1.of ps_retN fun σ H B C Wx tk rl q y => q.rt .non (.d .none) σ B ρ H rfl (Go.refl _ _ _) rl (show Dp X.K B .non .none from .non) h
theorem w1_drop (hs : swapsWith e none pos.line X.env = pure false) (h : WE X Y e ρ fun r ρ1 => D.nx ρ1) : W1 X Y (.Expr e pos) ρ D :=
  W1.of (ps_expr pe_sE hs) fun σ H B C Wx tk rl q y => h.run tk rl (fun v r B1 ρ1 H1 g1 rl1 vo hp => q.nx σ B1 ρ1 H1 rfl g1 rl1 hp) y
theorem w1_pass (h : D.nx ρ) : W1 X Y (.Pass pos) ρ D := W1.of ps_pass fun σ H B C Wx tk rl q y => q.nx σ B ρ H rfl (Go.refl _ _ _) rl h
theorem w1_break (h : D.bk ρ) : W1 X Y (.Break pos) ρ D := W1.of ps_break fun σ H B C Wx tk rl q y => q.bk σ B ρ H rfl (Go.refl _ _ _) rl h
theorem w1_cont (h : D.ct ρ) : W1 X Y (.Continue pos) ρ D := W1.of ps_continue fun σ H B C Wx tk rl q y => q.ct σ B ρ H rfl (Go.refl _ _ _) rl h
theorem w1_if (h : WT X Y c ρ fun k ρ1 => (k = true → WS X Y s1 ρ1 D) ∧ (k = false → WS X Y s2 ρ1 D)) : W1 X Y (.If c s1 s2 pos) ρ D :=
  W1.of (ps_if pt_sT pss_sS pss_sS) fun σ H B C Wx tk rl q y => h σ H B _ Wx tk rl (fun k B1 ρ1 H1 g1 rl1 hk => by
    cases k with
    | true => exact (hk.1 rfl).run tk rl1 (q.on g1 rfl) (y.on g1 rfl)
    | false => exact (hk.2 rfl).run tk rl1 (q.on g1 rfl) (y.on g1 rfl)) y
/-- a, b = e1, e2 -/
theorem w1_par {kt k2 : Nat} {pt pt2 px py : Pos} (i j : Nat) (hc : X.calm = true) (hN : X.N.Nodup) (hi : X.N[i]? = some x) (hj : X.N[j]? = some y) (hij : i ≠ j) (hx : X.env.scope.names.lookup x = some .local) (hy : X.env.scope.names.lookup y = some .local)
    (hw : swappedStores [.Tuple [.Name x px, .Name y py] kt pt] (.Tuple [a, b] k2 pt2) X.env = pure (some [x, y])) (hs : swapsWithSole [.Tuple [.Name x px, .Name y py] kt pt] (.Tuple [a, b] k2 pt2) pos.line X.env = pure false)
    (h : WA X Y [a, b] ρ fun rs ρ1 => ∃ r1 r2, rs = [r1, r2] ∧ putR ρ1 i (fun ρ2 => putR ρ2 j D.nx r2) r1) : W1 X Y (.Assign [.Tuple [.Name x px, .Name y py] kt pt] (.Tuple [a, b] k2 pt2) pos) ρ D :=
  W1.of (ps_par hc hN hi hj hij hx hy pa_sA hw hs) fun σ H B C Wx tk rl q z => h σ H B _ Wx tk rl (fun vs rs B1 ρ1 H1 g1 rl1 vo ap hp => by
    obtain ⟨r1, r2, rfl, hp⟩ := hp
    cases vo with
    | @cons v1 _ _ _ x1 t1 =>
      cases t1 with
      | @cons v2 _ _ _ x2 t2 =>
        cases t2
        refine ⟨v1, v2, rfl, ?_⟩
        cases ap with
        | cons n1 _ =>
          have fin : ∀ ρ2, Go B ρ H B1 ρ2 H1 → Rel X.K B1 ρ2 (σ.set i (some v1)) H1 → putR ρ2 j D.nx r2 → (∀ p2, p2 ∈ owns ρ2 → p2 ∈ owns ρ1 ∨ ∃ es, r1 = .n es ∧ v1 = .ref p2) → C.nx ((σ.set i (some v1)).set j (some v2)) H1 := fun ρ2 g2 rl2 hd ho => by
            have x2' : VOk X.K H B1 ρ2 H1 v2 r2 := by
              cases r2 with
              | d d => exact x2
              | b i ds => exact hd.elim
              | n ds =>
                obtain ⟨p2, vs, rfl, h0, hb, no, hp2, da⟩ := x2
                refine ⟨p2, vs, rfl, h0, hb, fun z => ?_, hp2, da⟩
                rcases ho p2 z with z | ⟨es, e1, e2⟩
                · exact no z
                · exact n1 p2 es e1 e2 0 _ _ rfl rfl rfl
            obtain ⟨ρ3, g3, rl3, hd3⟩ := putR.go hd g2 rl2 x2'
            exact q.nx _ B1 ρ3 H1 (by rw [List.length_set, List.length_set]) g3 rl3 hd3
          cases r1 with
          | d d => exact fin _ (g1.setD nod) (rl1.setD x1) hp fun p2 h2 => .inl (owns_setD nod h2)
          | n ds =>
            obtain ⟨p1, vs, rfl, h0, hb, no, hp1, da⟩ := x1
            exact fin _ (g1.setN h0) (rl1.setN hb no hp1 da) (hp p1 no) fun p2 h2 => (owns_setN h2).elim (fun e => .inr ⟨ds, rfl, by rw [e]⟩) .inl
          | b k ds => exact hp.elim) z
end
end Bs
set_option maxHeartbeats 2000000
namespace Bs
open PySem PySem.Spec PyProof.Rows L2

/-! ### targets -/
/-- a target's reading over data: d stored takes ρ to ρ' -/
def TgR (g : L2.Cx → TG) (S : PyData → Rho → Rho → Prop) : Prop := ∀ (X : Cx) (B H : Hp) (ρ ρ' : Rho) (σ : L2.St) (v : V) (d : PyData) (Q : L2.St → Hp → Prop), Rel X.K B ρ σ H → Dp X.K B v d → S d ρ ρ' →
  (∀ σ', σ'.length = σ.length → Rel X.K B ρ' σ' H → (∀ p, p ∈ owns ρ' → p ∈ owns ρ) → Q σ' H) → g X v σ H Q
def tgN (i : Nat) : PyData → Rho → Rho → Prop := fun d ρ ρ' => ρ' = ρ.set i (.dat d)
theorem tg_name (i : Nat) : TgR (fun _ => gName i) (tgN i) := fun X B H ρ ρ' σ v d Q R h e q => by
  subst e
  exact q _ (List.length_set) (R.setD h) fun p hp => owns_setD nod hp
def gsN : List Nat → TGs
  | [] => gNil
  | i :: is => gCons (gName i) (gsN is)
def setL : Rho → List Nat → List PyData → Rho
  | ρ, i :: is, d :: ds => setL (ρ.set i (.dat d)) is ds
  | ρ, _, _ => ρ
def tgT (is : List Nat) : PyData → Rho → Rho → Prop := fun d ρ ρ' => ∃ ds, d = .tuple ds ∧ ds.length = is.length ∧ ρ' = setL ρ is ds
theorem gsN_ok {K : PySem.W.Frag} {B H : Hp} : ∀ (is : List Nat) (vs : List V) (ds : List PyData) (ρ : Rho) (σ : L2.St) (Q : L2.St → Hp → Prop), ds.length = is.length → DpAll K B vs ds → Rel K B ρ σ H →
    (∀ σ', σ'.length = σ.length → Rel K B (setL ρ is ds) σ' H → (∀ p, p ∈ owns (setL ρ is ds) → p ∈ owns ρ) → Q σ' H) → gsN is vs σ H Q
  | [], vs, [], ρ, σ, Q, _, a, R, q => by
    cases a
    exact ⟨rfl, q σ rfl R fun _ h => h⟩
  | i :: is, vs, d :: ds, ρ, σ, Q, hl, a, R, q => by
    cases a with
    | @cons v vs _ _ h t =>
      refine ⟨v, vs, rfl, ?_⟩
      exact gsN_ok is vs ds (ρ.set i (.dat d)) (σ.set i (some v)) Q (Nat.succ.inj hl) t (R.setD h) fun σ' l R' o => q σ' (l.trans List.length_set) R' fun p hp => owns_setD nod (o p hp)
  | [], _, _ :: _, _, _, _, hl, _, _, _ => nomatch hl
  | _ :: _, _, [], _, _, _, hl, _, _, _ => nomatch hl
theorem tg_tup (is : List Nat) : TgR (fun X => gTup X.K is.length (gsN is)) (tgT is) := fun X B H ρ ρ' σ v d Q R h e q => by
  obtain ⟨ds, rfl, hl, rfl⟩ := e
  cases h with
  | @tup a vs _ s da => exact ⟨a, vs, rfl, up_t R.up s, (DpAll.len da).trans hl, gsN_ok is vs ds ρ σ Q hl da R q⟩

/-! ### writing an own list -/
theorem Go.write {B0 H0 B H : Hp} {ρ0 ρ : Rho} {i : Nat} {p : Addr} {ds es : List PyData} {o : HO} (g : Go B0 ρ0 H0 B ρ H) (hi : ρ[i]? = some (.own p ds)) : Go B0 ρ0 H0 B (ρ.set i (.own p es)) (upd H p o) where
  gr := g.gr
  fr := g.fr
  fm := fun a q h1 h2 => by
    have ne : a ≠ p := fun z => (g.ow p (mem_owns.mpr ⟨i, ds, hi⟩)).elim (fun y => h1 (by rw [z]; exact y)) (fun y => by rw [z, y] at h2; cases h2)
    exact (upd_ne ne).trans (g.fm a q h1 h2)
  ow := fun q h => (owns_setN h).elim (fun e => g.ow q (by rw [e]; exact mem_owns.mpr ⟨i, ds, hi⟩)) (g.ow q)
  th := fun a h => by
    by_cases e : a = p
    · rw [e, upd_same]; exact fun z => nomatch z
    · rw [upd_ne e]; exact g.th a h
theorem Rel.write {K : PySem.W.Frag} {B H : Hp} {ρ : Rho} {σ : L2.St} {i : Nat} {p : Addr} {ds es : List PyData} {ws : List V} (R : Rel K B ρ σ H) (hi : ρ[i]? = some (.own p ds)) (h : DpAll K B ws es) : Rel K B (ρ.set i (.own p es)) σ (upd H p (.lst ws)) := by
  have hil : i < ρ.length := (List.getElem?_eq_some_iff.mp hi).1
  obtain ⟨hb, us, hu⟩ := R.own_there (mem_owns.mpr ⟨i, ds, hi⟩)
  refine ⟨R.up.mut hb, by rw [List.length_set]; exact R.len, fun j s o e1 e2 => ?_, fun j k q fs gs e1 e2 => ?_⟩
  · by_cases hj : i = j
    · subst hj
      rw [List.getElem?_set_self hil] at e1
      cases e1
      obtain ⟨ev, _⟩ := R.sl i _ _ hi e2
      exact ⟨ev, hb, ws, upd_same, h⟩
    · rw [List.getElem?_set_ne hj] at e1
      have y := R.sl j s o e1 e2
      cases s with
      | any => trivial
      | exn a d fs => exact y
      | dat d => exact y
      | own q fs =>
        obtain ⟨ev, hq, vs, hv, a⟩ := y
        have ne : q ≠ p := fun z => hj (R.one i j p ds fs hi (by rw [← z]; exact e1))
        exact ⟨ev, hq, vs, (upd_ne ne).trans hv, a⟩
  · have g : ∀ (j : Nat) (fs : List PyData), (ρ.set i (Sl.own p es))[j]? = some (Sl.own q fs) → ∃ fs', ρ[j]? = some (Sl.own q fs') := fun j fs e => by
      by_cases hj : i = j
      · subst hj
        rw [List.getElem?_set_self hil] at e
        cases e
        exact ⟨ds, hi⟩
      · rw [List.getElem?_set_ne hj] at e; exact ⟨fs, e⟩
    obtain ⟨fs', e1'⟩ := g j fs e1
    obtain ⟨gs', e2'⟩ := g k gs e2
    exact R.one j k q fs' gs' e1' e2'
/-- an own list becomes data -/
theorem freezeOwn {K : PySem.W.Frag} {B H : Hp} {ρ : Rho} {σ : L2.St} {i : Nat} {p : Addr} {ds : List PyData} (R : Rel K B ρ σ H) (hi : ρ[i]? = some (.own p ds)) : ∃ B', Go B ρ H B' (ρ.set i (.dat (.list ds))) H ∧ Rel K B' (ρ.set i (.dat (.list ds))) σ H := by
  have hil : i < ρ.length := (List.getElem?_eq_some_iff.mp hi).1
  obtain ⟨ev, hb, vs, hv, a⟩ := R.sl i _ _ hi (List.getElem?_eq_getElem (by rw [← R.len]; exact hil))
  have un : Up B (upd B p (.lst vs)) := Up.new hb
  have hd : Dp K (upd B p (.lst vs)) (.ref p) (.list ds) := .lst (.of upd_same) (DpAll.up un a)
  refine ⟨upd B p (.lst vs), ⟨un, fun c h1 h2 _ => (upd_ne fun z => h1 (by rw [z]; exact mem_owns.mpr ⟨i, ds, hi⟩)).trans h2, fun _ _ _ h => h, fun q h => .inl (owns_setD nod h), fun _ h => h⟩, ⟨fun c q hc => ?_, by rw [List.length_set]; exact R.len, fun j s o e1 e2 => ?_, fun j k q fs gs e1 e2 => ?_⟩⟩
  · by_cases e : c = p
    · rw [e, upd_same] at hc; cases hc; rw [e]; exact hv
    · rw [upd_ne e] at hc; exact R.up c q hc
  · by_cases hj : i = j
    · subst hj
      rw [List.getElem?_set_self hil] at e1
      cases e1
      obtain ⟨ev', _⟩ := R.sl i _ _ hi e2
      exact ⟨_, ev', hd⟩
    · rw [List.getElem?_set_ne hj] at e1
      have y := R.sl j s o e1 e2
      cases s with
      | any => trivial
      | exn a d fs => exact ⟨y.1, y.2.up un⟩
      | dat d =>
        obtain ⟨u, e, q⟩ := y
        exact ⟨u, e, Dp.up un q⟩
      | own q fs =>
        obtain ⟨e, hq, ws, hw, a'⟩ := y
        have ne : q ≠ p := fun z => hj (R.one i j p ds fs hi (by rw [← z]; exact e1))
        exact ⟨e, (upd_ne ne).trans hq, ws, hw, DpAll.up un a'⟩
  · have g : ∀ (j : Nat) (fs : List PyData), (ρ.set i (Sl.dat (.list ds)))[j]? = some (Sl.own q fs) → ρ[j]? = some (Sl.own q fs) := fun j fs e => by
      by_cases hj : i = j
      · subst hj
        rw [List.getElem?_set_self hil] at e
        cases e
      · rw [List.getElem?_set_ne hj] at e; exact e
    exact R.one j k q fs gs (g j fs e1) (g k gs e2)

section
variable {X : Cx} {Y : WY} {ρ : Rho} {D : Ed} {R : Rv → Rho → Prop} {a b c e : Expr} {es rest : List Expr} {pos p pos' apos : Pos} {x y : Str} {st : Stmt} {sts s1 s2 body : List Stmt}
theorem WE.freeze (i : Nat) (q : Addr) (ds : List PyData) (hi : ρ[i]? = some (.own q ds)) (h : WE X Y e (ρ.set i (.dat (.list ds))) R) : WE X Y e ρ R := fun σ H B Q Wx tk rl k z => by
  obtain ⟨B', g, rl'⟩ := freezeOwn rl hi
  exact h.run tk rl' (fun v r B2 ρ2 H2 g2 rl2 vo2 y => k v r B2 ρ2 H2 (g.trans g2) rl2 vo2 y) (z.on g rfl)
theorem WS.freeze (i : Nat) (q : Addr) (ds : List PyData) (hi : ρ[i]? = some (.own q ds)) (h : WS X Y sts (ρ.set i (.dat (.list ds))) D) : WS X Y sts ρ D := fun σ H B C Wx tk rl k z => by
  obtain ⟨B', g, rl'⟩ := freezeOwn rl hi
  exact h.run tk rl' (k.on g rfl) (z.on g rfl)
/-- target = e -/
theorem w1_asg {tg : Expr} {g : L2.Cx → TG} {S : PyData → Rho → Rho → Prop} (hg : PG X tg (g X)) (hS : TgR g S) (hs : swapsWithSole [tg] e pos.line X.env = pure false) (hw : swappedStores [tg] e X.env = pure none) (h1 : (assignEach [tg] X.env).map (·.2) = [assign tg X.env])
    (h : WE X Y e ρ fun r ρ1 => r.nob ∧ ∃ ρ2, S r.dt ρ1 ρ2 ∧ D.nx ρ2) : W1 X Y (.Assign [tg] e pos) ρ D :=
  W1.of (ps_asg pe_sE hg hs hw h1) fun σ H B C Wx tk rl q y => h.run tk rl (fun v r B1 ρ1 H1 g1 rl1 vo hp => by
    obtain ⟨nb, ρ2, hs, hd⟩ := hp
    obtain ⟨B2, g2, rl2, hdp, _, _⟩ := VOk.freeze (fun i ds e => by rw [e] at nb; exact nb) g1 rl1 vo
    exact hS X B2 H1 ρ1 ρ2 σ v _ _ rl2 hdp hs fun σ' l R' o => q.nx σ' B2 ρ2 H1 l ⟨g2.gr, g2.fr, g2.fm, fun p hp => g2.ow p (o p hp), g2.th⟩ R' hd) y
/-- for target in a list -/
theorem w1_forL {tg : Expr} {g : L2.Cx → TG} {S : PyData → Rho → Rho → Prop} (hp : PassesOwn (model X.prog X.w) X.A X.env X.xe) (hc : X.calm = true) (hg : PG X tg (g X)) (hS : TgR g S) (hs : ∀ x, foldedSetIterable a X.env x = pure x)
    (h : WE X Y a ρ fun r ρ1 => r.nob ∧ ∃ ds, r.dt = .list ds ∧ ∃ I : Nat → Rho → Prop, I 0 ρ1 ∧ (∀ i d ρ2, ds[i]? = some d → I i ρ2 → ∃ ρ3, S d ρ2 ρ3 ∧ WS X Y body ρ3 { D with nx := I (i + 1), ct := I (i + 1), bk := D.nx }) ∧ (∀ ρ2, I ds.length ρ2 → D.nx ρ2)) :
    W1 X Y (.For tg a body [] pos) ρ D :=
  W1.of (ps_for hp hc (pi_list pe_sE) hg pss_sS hs) fun σ H B C Wx tk rl q y => h.run tk rl (fun v r B1 ρ1 H1 g1 rl1 vo hk => by
    obtain ⟨nb, ds, ed, I, i0, hi, hn⟩ := hk
    obtain ⟨B2, g2, rl2, hdp, _, _⟩ := VOk.freeze (fun i ds e => by rw [e] at nb; exact nb) g1 rl1 vo
    rw [ed] at hdp
    cases hdp with
    | @lst l vs _ s da =>
      refine ⟨l, rfl, ⟨vs, up_l rl2.up s⟩, ?_⟩
      refine for_list (xs := vs) (fun i σ' H' => ∃ B' ρ', σ'.length = σ.length ∧ Go B2 ρ1 H1 B' ρ' H' ∧ Rel X.K B' ρ' σ' H' ∧ I i ρ') ⟨B2, ρ1, rfl, Go.refl _ _ _, rl2, i0⟩ (fun i σ' H' _ ⟨B', ρ', _, g', rl', _⟩ => up_l rl'.up (up_l g'.gr s)) (fun i u σ' H' hu ⟨B', ρ', l', g', rl', iv⟩ => ?_) (fun σ' H' ⟨B', ρ', l', g', rl', iv⟩ => ?_)
      · obtain ⟨d, hd, du⟩ := DpAll.get' da hu
        obtain ⟨ρ3, hs3, hb⟩ := hi i d ρ' hd iv
        refine hS X B' H' ρ' ρ3 σ' u d _ rl' (Dp.up g'.gr du) hs3 fun σ3 l3 rl3 o3 => ?_
        have g3 : Go B2 ρ1 H1 B' ρ3 H' := ⟨g'.gr, g'.fr, g'.fm, fun p hp => g'.ow p (o3 p hp), g'.th⟩
        exact hb.run tk rl3 ⟨fun σ4 B4 ρ4 H4 l4 g4 rl4 iv4 => ⟨B4, ρ4, l4.trans (l3.trans l'), g3.trans g4, rl4, iv4⟩, fun v4 r4 σ4 B4 ρ4 H4 l4 g4 rl4 vo4 k4 => q.rt v4 r4 σ4 B4 ρ4 H4 (l4.trans (l3.trans l')) ((g2.trans g3).trans g4) rl4 (vo4.org (g2.trans g3)) k4,
          fun σ4 B4 ρ4 H4 l4 g4 rl4 iv4 => q.nx σ4 B4 ρ4 H4 (l4.trans (l3.trans l')) ((g2.trans g3).trans g4) rl4 iv4, fun σ4 B4 ρ4 H4 l4 g4 rl4 iv4 => ⟨B4, ρ4, l4.trans (l3.trans l'), g3.trans g4, rl4, iv4⟩⟩ (y.on (g2.trans g3) (l3.trans l'))
      · rw [DpAll.len da] at iv
        exact q.nx σ' B' ρ' H' l' (g2.trans g') rl' (hn ρ' iv)) y
theorem w1_forT {tg : Expr} {g : L2.Cx → TG} {S : PyData → Rho → Rho → Prop} (hp : PassesOwn (model X.prog X.w) X.A X.env X.xe) (hc : X.calm = true) (hg : PG X tg (g X)) (hS : TgR g S) (hs : ∀ x, foldedSetIterable a X.env x = pure x)
    (h : WE X Y a ρ fun r ρ1 => r.nob ∧ ∃ ds, r.dt = .tuple ds ∧ ∃ I : Nat → Rho → Prop, I 0 ρ1 ∧ (∀ i d ρ2, ds[i]? = some d → I i ρ2 → ∃ ρ3, S d ρ2 ρ3 ∧ WS X Y body ρ3 { D with nx := I (i + 1), ct := I (i + 1), bk := D.nx }) ∧ (∀ ρ2, I ds.length ρ2 → D.nx ρ2)) :
    W1 X Y (.For tg a body [] pos) ρ D :=
  W1.of (ps_for hp hc (pi_tup pe_sE) hg pss_sS hs) fun σ H B C Wx tk rl q y => h.run tk rl (fun v r B1 ρ1 H1 g1 rl1 vo hk => by
    obtain ⟨nb, ds, ed, I, i0, hi, hn⟩ := hk
    obtain ⟨B2, g2, rl2, hdp, _, _⟩ := VOk.freeze (fun i ds e => by rw [e] at nb; exact nb) g1 rl1 vo
    rw [ed] at hdp
    cases hdp with
    | @tup l vs _ s da =>
      refine ⟨l, rfl, ⟨vs, up_t rl2.up s⟩, ?_⟩
      refine for_tup (xs := vs) (fun i σ' H' => ∃ B' ρ', σ'.length = σ.length ∧ Go B2 ρ1 H1 B' ρ' H' ∧ Rel X.K B' ρ' σ' H' ∧ I i ρ') ⟨B2, ρ1, rfl, Go.refl _ _ _, rl2, i0⟩ (fun i σ' H' _ ⟨B', ρ', _, g', rl', _⟩ => up_t rl'.up (up_t g'.gr s)) (fun i u σ' H' hu ⟨B', ρ', l', g', rl', iv⟩ => ?_) (fun σ' H' ⟨B', ρ', l', g', rl', iv⟩ => ?_)
      · obtain ⟨d, hd, du⟩ := DpAll.get' da hu
        obtain ⟨ρ3, hs3, hb⟩ := hi i d ρ' hd iv
        refine hS X B' H' ρ' ρ3 σ' u d _ rl' (Dp.up g'.gr du) hs3 fun σ3 l3 rl3 o3 => ?_
        have g3 : Go B2 ρ1 H1 B' ρ3 H' := ⟨g'.gr, g'.fr, g'.fm, fun p hp => g'.ow p (o3 p hp), g'.th⟩
        exact hb.run tk rl3 ⟨fun σ4 B4 ρ4 H4 l4 g4 rl4 iv4 => ⟨B4, ρ4, l4.trans (l3.trans l'), g3.trans g4, rl4, iv4⟩, fun v4 r4 σ4 B4 ρ4 H4 l4 g4 rl4 vo4 k4 => q.rt v4 r4 σ4 B4 ρ4 H4 (l4.trans (l3.trans l')) ((g2.trans g3).trans g4) rl4 (vo4.org (g2.trans g3)) k4,
          fun σ4 B4 ρ4 H4 l4 g4 rl4 iv4 => q.nx σ4 B4 ρ4 H4 (l4.trans (l3.trans l')) ((g2.trans g3).trans g4) rl4 iv4, fun σ4 B4 ρ4 H4 l4 g4 rl4 iv4 => ⟨B4, ρ4, l4.trans (l3.trans l'), g3.trans g4, rl4, iv4⟩⟩ (y.on (g2.trans g3) (l3.trans l'))
      · rw [DpAll.len da] at iv
        exact q.nx σ' B' ρ' H' l' (g2.trans g') rl' (hn ρ' iv)) y
/-- for target in range(n); range(lo, hi) -/
theorem w1_forR1 {tg n : Expr} {g : L2.Cx → TG} {S : PyData → Rho → Rho → Prop} (hp : PassesOwn (model X.prog X.w) X.A X.env X.xe) (hc : X.calm = true) (hg : PG X tg (g X)) (hS : TgR g S) (hgl : Gl X "range") (hm : X.mg "range" = none) (hst : starEach [n] X.env = [(false, eval n X.env)])
    (hs : ∀ x, foldedSetIterable (.Call (.Name "range" p) [n] [] pos') X.env x = pure x)
    (h : WA X Y [n] ρ fun rs ρ1 => ∃ j : Int, rs = [.d (.int j)] ∧ j.natAbs < 1000000 ∧ ∃ I : Nat → Rho → Prop, I 0 ρ1 ∧ (∀ (i : Nat) ρ2, (i : Int) < j → I i ρ2 → ∃ ρ3, S (.int (i : Int)) ρ2 ρ3 ∧ WS X Y body ρ3 { D with nx := I (i + 1), ct := I (i + 1), bk := D.nx }) ∧ (∀ ρ2, I j.toNat ρ2 → D.nx ρ2)) :
    W1 X Y (.For tg (.Call (.Name "range" p) [n] [] pos') body [] pos) ρ D :=
  W1.of (ps_for hp hc (pi_range1 hgl hm pa_sA hst) hg pss_sS hs) fun σ H B C Wx tk rl q y => h σ H B _ Wx tk rl (fun vs rs B1 ρ1 H1 g1 rl1 vo ap hk => by
    obtain ⟨j, rfl, hj, I, i0, hi, hn⟩ := hk
    cases vo with
    | @cons v _ _ _ xo t =>
      cases t
      have xo : Dp X.K B1 v (.int j) := xo
      cases xo
      refine ⟨j, rfl, by omega, by omega, ?_⟩
      refine for_range (lo := 0) (n := j.toNat) (fun i σ' H' => ∃ B' ρ', σ'.length = σ.length ∧ Go B1 ρ1 H1 B' ρ' H' ∧ Rel X.K B' ρ' σ' H' ∧ I i ρ') ⟨B1, ρ1, rfl, Go.refl _ _ _, rl1, i0⟩ (fun i σ' H' hu ⟨B', ρ', l', g', rl', iv⟩ => ?_) (fun σ' H' ⟨B', ρ', l', g', rl', iv⟩ => ?_)
      · obtain ⟨ρ3, hs3, hb⟩ := hi i ρ' (by omega) iv
        rw [Int.zero_add]
        refine hS X B' H' ρ' ρ3 σ' (.int i) (.int i) _ rl' (.int _) hs3 fun σ3 l3 rl3 o3 => ?_
        have g3 : Go B1 ρ1 H1 B' ρ3 H' := ⟨g'.gr, g'.fr, g'.fm, fun p hp => g'.ow p (o3 p hp), g'.th⟩
        exact hb.run tk rl3 ⟨fun σ4 B4 ρ4 H4 l4 g4 rl4 iv4 => ⟨B4, ρ4, l4.trans (l3.trans l'), g3.trans g4, rl4, iv4⟩, fun v4 r4 σ4 B4 ρ4 H4 l4 g4 rl4 vo4 k4 => q.rt v4 r4 σ4 B4 ρ4 H4 (l4.trans (l3.trans l')) ((g1.trans g3).trans g4) rl4 (vo4.org (g1.trans g3)) k4,
          fun σ4 B4 ρ4 H4 l4 g4 rl4 iv4 => q.nx σ4 B4 ρ4 H4 (l4.trans (l3.trans l')) ((g1.trans g3).trans g4) rl4 iv4, fun σ4 B4 ρ4 H4 l4 g4 rl4 iv4 => ⟨B4, ρ4, l4.trans (l3.trans l'), g3.trans g4, rl4, iv4⟩⟩ (y.on (g1.trans g3) (l3.trans l'))
      · exact q.nx σ' B' ρ' H' l' (g1.trans g') rl' (hn ρ' iv)) y
theorem w1_forR2 {tg m n : Expr} {g : L2.Cx → TG} {S : PyData → Rho → Rho → Prop} (hp : PassesOwn (model X.prog X.w) X.A X.env X.xe) (hc : X.calm = true) (hg : PG X tg (g X)) (hS : TgR g S) (hgl : Gl X "range") (hm : X.mg "range" = none)
    (hst : starEach [m, n] X.env = [(false, eval m X.env), (false, eval n X.env)]) (hst2 : starEach [n] X.env = [(false, eval n X.env)]) (hs : ∀ x, foldedSetIterable (.Call (.Name "range" p) [m, n] [] pos') X.env x = pure x)
    (h : WA X Y [m, n] ρ fun rs ρ1 => ∃ l j : Int, rs = [.d (.int l), .d (.int j)] ∧ l.natAbs < 1000000 ∧ j.natAbs < 1000000 ∧ ∃ I : Nat → Rho → Prop, I 0 ρ1 ∧ (∀ (i : Nat) ρ2, l + (i : Int) < j → I i ρ2 → ∃ ρ3, S (.int (l + (i : Int))) ρ2 ρ3 ∧ WS X Y body ρ3 { D with nx := I (i + 1), ct := I (i + 1), bk := D.nx }) ∧ (∀ ρ2, I (j - l).toNat ρ2 → D.nx ρ2)) :
    W1 X Y (.For tg (.Call (.Name "range" p) [m, n] [] pos') body [] pos) ρ D :=
  W1.of (ps_for hp hc (pi_range2 hgl hm pa_sA hst hst2) hg pss_sS hs) fun σ H B C Wx tk rl q y => h σ H B _ Wx tk rl (fun vs rs B1 ρ1 H1 g1 rl1 vo ap hk => by
    obtain ⟨lo, j, rfl, hlo, hj, I, i0, hi, hn⟩ := hk
    cases vo with
    | @cons v _ _ _ xo t =>
      cases t with
      | @cons w _ _ _ xo2 t =>
        cases t
        have xo : Dp X.K B1 v (.int lo) := xo
        have xo2 : Dp X.K B1 w (.int j) := xo2
        cases xo
        cases xo2
        refine ⟨lo, j, rfl, by omega, ?_⟩
        refine for_range (lo := lo) (n := (j - lo).toNat) (fun i σ' H' => ∃ B' ρ', σ'.length = σ.length ∧ Go B1 ρ1 H1 B' ρ' H' ∧ Rel X.K B' ρ' σ' H' ∧ I i ρ') ⟨B1, ρ1, rfl, Go.refl _ _ _, rl1, i0⟩ (fun i σ' H' hu ⟨B', ρ', l', g', rl', iv⟩ => ?_) (fun σ' H' ⟨B', ρ', l', g', rl', iv⟩ => ?_)
        · obtain ⟨ρ3, hs3, hb⟩ := hi i ρ' (by omega) iv
          refine hS X B' H' ρ' ρ3 σ' (.int (lo + i)) (.int (lo + i)) _ rl' (.int _) hs3 fun σ3 l3 rl3 o3 => ?_
          have g3 : Go B1 ρ1 H1 B' ρ3 H' := ⟨g'.gr, g'.fr, g'.fm, fun p hp => g'.ow p (o3 p hp), g'.th⟩
          exact hb.run tk rl3 ⟨fun σ4 B4 ρ4 H4 l4 g4 rl4 iv4 => ⟨B4, ρ4, l4.trans (l3.trans l'), g3.trans g4, rl4, iv4⟩, fun v4 r4 σ4 B4 ρ4 H4 l4 g4 rl4 vo4 k4 => q.rt v4 r4 σ4 B4 ρ4 H4 (l4.trans (l3.trans l')) ((g1.trans g3).trans g4) rl4 (vo4.org (g1.trans g3)) k4,
            fun σ4 B4 ρ4 H4 l4 g4 rl4 iv4 => q.nx σ4 B4 ρ4 H4 (l4.trans (l3.trans l')) ((g1.trans g3).trans g4) rl4 iv4, fun σ4 B4 ρ4 H4 l4 g4 rl4 iv4 => ⟨B4, ρ4, l4.trans (l3.trans l'), g3.trans g4, rl4, iv4⟩⟩ (y.on (g1.trans g3) (l3.trans l'))
        · exact q.nx σ' B' ρ' H' l' (g1.trans g') rl' (hn ρ' iv)) y
/-- while -/
theorem w1_while (hp : PassesOwn (model X.prog X.w) X.A X.env X.xe) (I : Nat → Rho → Prop) (m0 : Nat) (h0 : I m0 ρ)
    (hs : ∀ m ρ1, I m ρ1 → WT X Y c ρ1 fun k ρ2 => (k = true → WS X Y body ρ2 { D with nx := fun ρ3 => ∃ m', m' < m ∧ I m' ρ3, ct := fun ρ3 => ∃ m', m' < m ∧ I m' ρ3, bk := D.nx }) ∧ (k = false → D.nx ρ2)) : W1 X Y (.While c body [] pos) ρ D :=
  W1.of (ps_while hp pt_sT pss_sS) fun σ H B C Wx tk rl q y => by
    refine ⟨fun m σ' H' => ∃ B' ρ', σ'.length = σ.length ∧ Go B ρ H B' ρ' H' ∧ Rel X.K B' ρ' σ' H' ∧ I m ρ', ⟨m0, B, ρ, rfl, Go.refl _ _ _, rl, h0⟩, fun m σ' H' ⟨B', ρ', l', g', rl', iv⟩ => ?_⟩
    refine hs m ρ' iv σ' H' B' _ Wx tk rl' (fun k B2 ρ2 H2 g2 rl2 hk => ?_) (y.on g' l')
    cases k with
    | true =>
      refine ⟨fun σ3 H3 => ∃ m', m' < m ∧ ∃ B' ρ', σ3.length = σ.length ∧ Go B ρ H B' ρ' H3 ∧ Rel X.K B' ρ' σ3 H3 ∧ I m' ρ', fun σ3 H3 h3 => h3, ?_⟩
      refine (hk.1 rfl).run tk rl2 ⟨fun σ4 B4 ρ4 H4 l4 g4 rl4 ⟨m', lt, iv4⟩ => ⟨m', lt, B4, ρ4, l4.trans l', (g'.trans g2).trans g4, rl4, iv4⟩, fun v4 r4 σ4 B4 ρ4 H4 l4 g4 rl4 vo4 k4 => q.rt v4 r4 σ4 B4 ρ4 H4 (l4.trans l') ((g'.trans g2).trans g4) rl4 (vo4.org (g'.trans g2)) k4,
          fun σ4 B4 ρ4 H4 l4 g4 rl4 iv4 => q.nx σ4 B4 ρ4 H4 (l4.trans l') ((g'.trans g2).trans g4) rl4 iv4, fun σ4 B4 ρ4 H4 l4 g4 rl4 ⟨m', lt, iv4⟩ => ⟨m', lt, B4, ρ4, l4.trans l', (g'.trans g2).trans g4, rl4, iv4⟩⟩ (y.on (g'.trans g2) l')
    | false => exact q.nx σ' B2 ρ2 H2 l' (g'.trans g2) rl2 (hk.2 rfl)
end
end Bs
set_option maxHeartbeats 2000000
namespace Bs
open PySem PySem.Spec PyProof.Rows L2

/-! ### contracts -/
/-- a def's contract: what it wants of its arguments; then R of each result (and of what the arguments' slots hold), Y of each exception -/
abbrev BSp := Rho → (Rv → Rho → Prop) → WY → Prop
def QB (K : PySem.W.Frag) (B : Hp) (as : Rho) (vs : List V) (H : Hp) (R : Rv → Rho → Prop) : VK := fun v H' => ∃ r B' as', Go B as H B' as' H' ∧ Rel K B' as' (vs.map some) H' ∧ VOk K H B' as' H' v r ∧ r.nob ∧ R r as'
def EB (K : PySem.W.Frag) (B : Hp) (as : Rho) (vs : List V) (H : Hp) (Y : WY) : XK := fun cls d H' => ∃ c fs B' as', Go B as H B' as' H' ∧ Rel K B' as' (vs.map some) H' ∧ XOk K B' H' cls d c fs ∧ Y c fs as'
structure FnB (P : Program) (w : World) (K : PySem.W.Frag) (mg : Str → Option Value) (base : Heap) (k : Nat) (f : Addr) (fd : FuncData) (ps : List Str) (sp : BSp) : Prop where
  len : ∀ as R Y, sp as R Y → as.length = ps.length
  run : ∀ (A : Around) (outer : List Env) (s : Shared) (H B : Hp) (args : Args) (us : List Value) (vs : List V) (as : Rho) (R : Rv → Rho → Prop) (Y : WY), Room k A → A.guards = some [] → Env0 P w K mg base A outer s H → BindsTo s fd args (ps.zip us) → Vals vs us →
    Rel K B as (vs.map some) H → sp as R Y → codeAny (model P w) A (.call (.ref f) args) (CR (L2.CX P w) outer P w H s (QB K B as vs H R) (EB K B as vs H Y)) s
theorem FnB.mono {P : Program} {w : World} {K : PySem.W.Frag} {mg : Str → Option Value} {base : Heap} {j k : Nat} {f : Addr} {fd : FuncData} {ps : List Str} {sp : BSp} (F : FnB P w K mg base j f fd ps sp) (h : j ≤ k) : FnB P w K mg base k f fd ps sp :=
  ⟨F.len, fun A outer s H B args us vs as R Y hr hg => F.run A outer s H B args us vs as R Y (hr.mono h) hg⟩
/-- what the parameters' slots tell behind the body -/
inductive Back : Rho → Rho → Rho → Prop
  | nil {ρ : Rho} : Back [] ρ []
  | any {a s : Sl} {as ρ as' : Rho} : Back as ρ as' → Back (a :: as) (s :: ρ) (.any :: as')
  | own {p : Addr} {ds es : List PyData} {as ρ as' : Rho} : Back as ρ as' → Back (.own p ds :: as) (.own p es :: ρ) (.own p es :: as')
theorem Back.len {as ρ as' : Rho} (h : Back as ρ as') : as'.length = as.length ∧ as.length ≤ ρ.length := by
  induction h with
  | nil => exact ⟨rfl, Nat.zero_le _⟩
  | any _ ih => exact ⟨congrArg (· + 1) ih.1, Nat.succ_le_succ ih.2⟩
  | own _ ih => exact ⟨congrArg (· + 1) ih.1, Nat.succ_le_succ ih.2⟩
theorem Back.at {as ρ as' : Rho} (h : Back as ρ as') : ∀ (i : Nat) (p : Addr) (es : List PyData), as'[i]? = some (.own p es) → ρ[i]? = some (.own p es) ∧ ∃ ds, as[i]? = some (.own p ds) := by
  induction h with
  | nil => intro i p es e; simp at e
  | any _ ih =>
    intro i p es e
    cases i with
    | zero => simp at e
    | succ i => rw [List.getElem?_cons_succ] at e; rw [List.getElem?_cons_succ, List.getElem?_cons_succ]; exact ih i p es e
  | own _ ih =>
    intro i q es e
    cases i with
    | zero => simp at e; obtain ⟨rfl, rfl⟩ := e; exact ⟨rfl, _, rfl⟩
    | succ i => rw [List.getElem?_cons_succ] at e; rw [List.getElem?_cons_succ, List.getElem?_cons_succ]; exact ih i q es e
theorem Back.nodat {as ρ as' : Rho} (h : Back as ρ as') : ∀ (i : Nat) (d : PyData), as'[i]? ≠ some (.dat d) := by
  induction h with
  | nil => intro i d e; simp at e
  | any _ ih =>
    intro i d e
    cases i with
    | zero => simp at e
    | succ i => rw [List.getElem?_cons_succ] at e; exact ih i d e
  | own _ ih =>
    intro i d e
    cases i with
    | zero => simp at e
    | succ i => rw [List.getElem?_cons_succ] at e; exact ih i d e
theorem Back.noexn {as ρ as' : Rho} (h : Back as ρ as') : ∀ (i : Nat) (a : Addr) (d : Option Addr) (fs : List (Str × PyData)), as'[i]? ≠ some (.exn a d fs) := by
  induction h with
  | nil => intro i a d fs e; simp at e
  | any _ ih =>
    intro i a d fs e
    cases i with
    | zero => simp at e
    | succ i => rw [List.getElem?_cons_succ] at e; exact ih i a d fs e
  | own _ ih =>
    intro i a d fs e
    cases i with
    | zero => simp at e
    | succ i => rw [List.getElem?_cons_succ] at e; exact ih i a d fs e
theorem Back.owns {as ρ as' : Rho} (h : Back as ρ as') {p : Addr} (hp : p ∈ owns as') : p ∈ Bs.owns ρ ∧ p ∈ Bs.owns as := by
  obtain ⟨i, es, e⟩ := mem_owns.mp hp
  obtain ⟨e1, ds, e2⟩ := h.at i p es e
  exact ⟨mem_owns.mpr ⟨i, es, e1⟩, mem_owns.mpr ⟨i, ds, e2⟩⟩
theorem Back.rel {K : PySem.W.Frag} {B B' H H' : Hp} {as ρ as' : Rho} {vs : List V} {σ' : L2.St} (h : Back as ρ as') (R0 : Rel K B as (vs.map some) H) (R : Rel K B' ρ σ' H') : Rel K B' as' (vs.map some) H' where
  up := R.up
  len := h.len.1.trans R0.len
  sl := fun i s o e1 e2 => by
    cases s with
    | any => trivial
    | exn a d fs => exact absurd e1 (h.noexn i a d fs)
    | dat d => exact absurd e1 (h.nodat i d)
    | own p es =>
      obtain ⟨q1, ds, q2⟩ := h.at i p es e1
      have hi : i < σ'.length := by rw [← R.len]; exact (List.getElem?_eq_some_iff.mp q1).1
      obtain ⟨_, hb, ws, hw, a⟩ := R.sl i _ _ q1 (List.getElem?_eq_getElem hi)
      exact ⟨(R0.sl i _ _ q2 e2).1, hb, ws, hw, a⟩
  one := fun i j p ds es e1 e2 => R.one i j p ds es (h.at i p ds e1).1 (h.at j p es e2).1
theorem Back.go {B H B' H' : Hp} {as ρ as' : Rho} (h : Back as ρ as') (g : Go B as H B' ρ H') : Go B as H B' as' H' := ⟨g.gr, g.fr, g.fm, fun p hp => .inl (h.owns hp).2, g.th⟩
/-- a result as the caller gets it -/
def rtB (as : Rho) (R : Rv → Rho → Prop) : Rv → Rho → Prop
  | .d x, ρ => ∃ as', Back as ρ as' ∧ R (.d x) as'
  | .n ds, ρ => ∃ as', Back as ρ as' ∧ R (.n ds) as'
  | .b i ds, ρ => (∀ p, ρ[i]? = some (.own p ds) → p ∉ owns as) ∧ ∃ as', Back as ρ as' ∧ R (.n ds) as'
def yB (as : Rho) (Y : WY) : WY := fun c fs ρ => ∃ as', Back as ρ as' ∧ Y c fs as'
def edB (as : Rho) (R : Rv → Rho → Prop) : Ed where
  nx := fun ρ => ∃ as', Back as ρ as' ∧ R (.d .none) as'
  rt := rtB as R
/-- the frame's slots at the entry -/
def start0 (n : Nat) (as : Rho) : Rho := as ++ List.replicate (n - as.length) .any
theorem Rel.strt {K : PySem.W.Frag} {B H : Hp} {as : Rho} {vs : List V} {N : List Str} (R : Rel K B as (vs.map some) H) : Rel K B (start0 N.length as) (L2.start N vs) H := by
  have hl : as.length = vs.length := by have := R.len; rw [List.length_map] at this; exact this
  have inl : ∀ {i : Nat} {s : Sl}, (start0 N.length as)[i]? = some s → s = .any ∨ as[i]? = some s := fun {i s} e => by
    unfold start0 at e
    by_cases hi : i < as.length
    · rw [List.getElem?_append_left hi] at e; exact .inr e
    · rw [List.getElem?_append_right (Nat.le_of_not_lt hi), List.getElem?_replicate] at e
      split at e
      · exact .inl (Option.some.inj e).symm
      · cases e
  refine ⟨R.up, ?_, fun i s o e1 e2 => ?_, fun i j p ds es e1 e2 => ?_⟩
  · unfold start0 L2.start
    rw [List.length_append, List.length_append, List.length_replicate, List.length_replicate, List.length_map, hl]
  · rcases inl e1 with rfl | e1'
    · trivial
    · have hi : i < vs.length := by rw [← hl]; exact (List.getElem?_eq_some_iff.mp e1').1
      have : (vs.map some)[i]? = some o := by
        unfold L2.start at e2
        rw [List.getElem?_append_left (by rw [List.length_map]; exact hi)] at e2
        exact e2
      exact R.sl i s o e1' this
  · rcases inl e1 with z | e1'
    · cases z
    · rcases inl e2 with z | e2'
      · cases z
      · exact R.one i j p ds es e1' e2'
theorem owns_start {n : Nat} {as : Rho} {p : Addr} : p ∈ owns (start0 n as) ↔ p ∈ owns as := by
  constructor
  · intro h
    obtain ⟨i, ds, e⟩ := mem_owns.mp h
    unfold start0 at e
    by_cases hi : i < as.length
    · rw [List.getElem?_append_left hi] at e; exact mem_owns.mpr ⟨i, ds, e⟩
    · rw [List.getElem?_append_right (Nat.le_of_not_lt hi), List.getElem?_replicate] at e
      split at e
      · cases e
      · cases e
  · intro h
    obtain ⟨i, ds, e⟩ := mem_owns.mp h
    refine mem_owns.mpr ⟨i, ds, ?_⟩
    unfold start0
    rw [List.getElem?_append_left (List.getElem?_eq_some_iff.mp e).1]
    exact e
theorem Go.fromStart {n : Nat} {B H B' H' : Hp} {as ρ' : Rho} (g : Go B (start0 n as) H B' ρ' H') : Go B as H B' ρ' H' :=
  ⟨g.gr, fun a h => g.fr a fun z => h (owns_start.mp z), fun a o h => g.fm a o fun z => h (owns_start.mp z), fun p h => (g.ow p h).imp owns_start.mp id, g.th⟩
/-- a def's body keeps its contract -/
theorem fnB_of {P : Program} {w : World} {K : PySem.W.Frag} {mg : Str → Option Value} {base : Heap} {k : Nat} {f : Addr} {name qual : Str} {params : Arguments} {body : List Stmt} {scope : Scope} {dV kV doc pm cdv ct oc : Value} {an od : Option Addr}
    {osl : Array (Option Value)} {N ps : List Str} {sp : BSp} (lk : K.lookup f = some ⟨oc, od, .func (PySem.W.fnOf name qual params body scope dV kV doc pm an cdv ct), osl⟩) (hcd : PySem.W.codeIn K cdv qual = true) (S : FnScope N ps scope)
    (len : ∀ as R Y, sp as R Y → as.length = ps.length)
    (hbody : ∀ (A : Around) (outer : List Env) (s : Shared) (H : Hp) (E : XK), Room k (A.deeper (envOfC qual scope s.heap.objs.size f cdv)) → A.guards = some [] → ∀ (as : Rho) (R : Rv → Rho → Prop) (Y : WY), sp as R Y →
      WS (cxOf (L2.CX P w) P w K mg base N qual scope f cdv A outer s H E) (yB as Y) body (start0 N.length as) (edB as R)) :
    FnB P w K mg base (k + 1) f (PySem.W.fnOf name qual params body scope dV kV doc pm an cdv ct) ps sp := by
  refine ⟨len, ?_⟩
  intro A outer s H B args us vs as R Y hr hgu e0 hb rv RR hsp
  have hl : vs.length = ps.length := by
    have h1 := RR.len
    rw [List.length_map, len _ _ _ hsp] at h1
    exact h1.symm
  have kX : K.In s.heap := e0.mod.kin.keeps fun b o e => (e0.bs b o e).1
  have nl : s.heap.NoLimit := e0.mod.nolimit.keeps fun b o e => (e0.bs b o e).1
  refine codeAny_call_function hr.depth (kX _ _ lk) rfl S.co S.gen rfl (PySem.W.codeRec_of kX hcd) (hb _ _ _ _ ?_)
  refine wpAny_newFunctionEnv_cells S.kind (fun y hy => ?_) fun env he s1 x => ?_
  · rcases S.par y.1 (List.of_mem_zip (show (y.1, y.2) ∈ ps.zip us from hy)).1 with q | q
    · exact Or.inl q
    · exact Or.inr (And.intro q (PySem.W.cellsFrom_some _ _ _ (Or.inl q)))
  subst he
  refine ⟨nl.keeps x.toInCall.keep, codeAny_func ?_⟩
  obtain ⟨X, hX⟩ : ∃ X, X = cxOf (L2.CX P w) P w K mg base N qual scope f cdv A outer s H (EB K B as vs H Y) := ⟨_, rfl⟩
  have I : Inv (cxOf (L2.CX P w) P w K mg base N qual scope f cdv A outer s H (EB K B as vs H Y)) [] (L2.start N vs) H s1 := inv_start S hr.hd e0 hl rv x
  have hw := hbody A outer s H (EB K B as vs H Y) (hr.deeper _) hgu as R Y hsp
  have run := hw (L2.start N vs) H B { nx := fun _ H' => QB K B as vs H R .non H', rt := QB K B as vs H R } (fun cls d _ H' => EB K B as vs H Y cls d H') (takes_of rfl rfl rfl rfl) RR.strt
    ⟨fun σ' B' ρ' H' _ g R' ⟨as', bk, hR⟩ => ⟨.d .none, B', as', bk.go g.fromStart, bk.rel RR R', (show Dp K B' .non .none from .non), trivial, hR⟩, fun v r σ' B' ρ' H' _ g R' vo hR => ?_, fun _ _ _ _ _ _ _ z => z.elim, fun _ _ _ _ _ _ _ z => z.elim⟩
    (fun cls d c fs B' ρ' σ' H' _ g R' xo ⟨as', bk, hY⟩ => ⟨c, fs, B', as', bk.go g.fromStart, bk.rel RR R', xo, hY⟩)
  · have fin : ∀ {u : Value} {v : V} {σ' : L2.St} {H' : Hp} {s' : Shared}, Inv (cxOf (L2.CX P w) P w K mg base N qual scope f cdv A outer s H (EB K B as vs H Y)) [] σ' H' s' → RelV v u → QB K B as vs H R v H' → CE outer P w H s (QB K B as vs H R) u s' :=
      fun {u v σ' H' s'} J r q => ⟨v, H', J.os, J.bare, J.base, J.hok, r, q⟩
    refine wpAny_mono (run [] s1 I) (fun fl s' hs => ?_) fun e s' hs => hs
    cases fl with
    | next =>
      obtain ⟨σ', H', J, q⟩ := hs
      exact fin (v := V.non) (u := Value.none) J rfl q
    | ret u =>
      obtain ⟨v, σ', H', J, r, q⟩ := hs
      exact fin J r q
    | brk =>
      obtain ⟨_, _, _, q⟩ := hs
      exact q.elim
    | cont =>
      obtain ⟨_, _, _, q⟩ := hs
      exact q.elim
  · cases r with
    | d d =>
      obtain ⟨as', bk, hR⟩ := hR
      exact ⟨.d d, B', as', bk.go g.fromStart, bk.rel RR R', vo, trivial, hR⟩
    | n ds =>
      obtain ⟨as', bk, hR⟩ := hR
      obtain ⟨p, ws, e, h0, hb', no, hp, da⟩ := vo
      exact ⟨.n ds, B', as', bk.go g.fromStart, bk.rel RR R', ⟨p, ws, e, h0, hb', fun z => no (bk.owns z).1, hp, da⟩, trivial, hR⟩
    | b i ds =>
      obtain ⟨hi, as', bk, hR⟩ := hR
      obtain ⟨p, e, hs⟩ := vo
      obtain ⟨hb', ws, hw⟩ := R'.own_there (mem_owns.mpr ⟨i, ds, hs⟩)
      have hil : i < σ'.length := by rw [← R'.len]; exact (List.getElem?_eq_some_iff.mp hs).1
      obtain ⟨_, _, ws', hw', da⟩ := R'.sl i _ _ hs (List.getElem?_eq_getElem hil)
      have nas : p ∉ owns as := hi p hs
      have h0 : H p = none := (g.fromStart.ow p (mem_owns.mpr ⟨i, ds, hs⟩)).resolve_left nas
      exact ⟨.n ds, B', as', bk.go g.fromStart, bk.rel RR R', ⟨p, ws', e, h0, hb', fun z => nas (bk.owns z).2, hw', da⟩, trivial, hR⟩
end Bs
set_option maxHeartbeats 2000000
namespace Bs
open PySem PySem.Spec PyProof.Rows L2

theorem VsOk.nobB {K : PySem.W.Frag} {H0 B H : Hp} {ρ : Rho} : ∀ {vs : List V} {rs : List Rv}, VsOk K H0 B ρ H vs rs → vs.length = rs.length
  | _, _, .nil => rfl
  | _, _, .cons _ t => congrArg (· + 1) (VsOk.nobB t)
/-- data as arguments' slots -/
def datS (rs : List Rv) : Rho := rs.map fun r => Sl.dat r.dt
theorem owns_dat : ∀ (rs : List Rv), owns (datS rs) = []
  | [] => rfl
  | r :: rs => owns_dat rs
theorem datS_get {rs : List Rv} {i : Nat} {s : Sl} (h : (datS rs)[i]? = some s) : ∃ r, rs[i]? = some r ∧ s = .dat r.dt := by
  unfold datS at h
  rw [List.getElem?_map] at h
  cases e : rs[i]? with
  | none => rw [e] at h; cases h
  | some r => rw [e] at h; exact ⟨r, rfl, (Option.some.inj h).symm⟩
theorem rel_dat {K : PySem.W.Frag} {B H : Hp} {vs : List V} {rs : List Rv} (u : Up B H) (da : DpAll K B vs (rs.map Rv.dt)) : Rel K B (datS rs) (vs.map some) H where
  up := u
  len := by
    have := DpAll.len da
    rw [List.length_map] at this
    unfold datS
    rw [List.length_map, List.length_map, this]
  sl := fun i s o e1 e2 => by
    obtain ⟨r, er, rfl⟩ := datS_get e1
    obtain ⟨v, ev, dv⟩ := DpAll.get (i := i) (d := r.dt) da (by rw [List.getElem?_map, er]; rfl)
    rw [List.getElem?_map, ev] at e2
    exact ⟨v, (Option.some.inj e2).symm, dv⟩
  one := fun i j p ds es e1 _ => by
    obtain ⟨r, _, e⟩ := datS_get e1
    cases e
/-- back in the caller: nothing of his was touched -/
theorem back_dat {K : PySem.W.Frag} {B H B' H' : Hp} {rs : List Rv} {as' ρ : Rho} {σ : L2.St} (R : Rel K B ρ σ H) (g : Go B (datS rs) H B' as' H') (u : Up B' H') : Go B ρ H B' ρ H' ∧ Rel K B' ρ σ H' := by
  have no : ∀ a, a ∉ owns (datS rs) := fun a z => by rw [owns_dat] at z; cases z
  refine ⟨⟨g.gr, fun a _ => g.fr a (no a), fun a o _ => g.fm a o (no a), fun p h => .inl h, g.th⟩, u, R.len, fun i s o e1 e2 => ?_, R.one⟩
  have x := R.sl i s o e1 e2
  cases s with
  | any => trivial
  | exn a d fs => exact ⟨x.1, x.2.up g.gr⟩
  | dat d =>
    obtain ⟨v, e, q⟩ := x
    exact ⟨v, e, Dp.up g.gr q⟩
  | own p ds =>
    obtain ⟨e, hb, vs, hv, a⟩ := x
    have hn : H p ≠ none := by rw [hv]; exact fun z => nomatch z
    exact ⟨e, g.fr p (no p) hb hn, vs, g.fm p _ (no p) hv, DpAll.up g.gr a⟩
theorem vok_dat {K : PySem.W.Frag} {B H B' H' : Hp} {as' ρ : Rho} {σ : L2.St} {v : V} {r : Rv} (R : Rel K B ρ σ H) (nb : r.nob) (x : VOk K H B' as' H' v r) : VOk K H B' ρ H' v r := by
  cases r with
  | d d => exact x
  | b i ds => exact nb.elim
  | n ds =>
    obtain ⟨p, vs, e, h0, hb, no, hp, a⟩ := x
    refine ⟨p, vs, e, h0, hb, fun z => ?_, hp, a⟩
    obtain ⟨_, ws, q⟩ := R.own_there z
    rw [h0] at q; cases q
/-- the caller with one list lent: slot i, the callee's first argument -/
theorem rel_cup {K : PySem.W.Frag} {B H : Hp} {ρ : Rho} {σ : L2.St} {i : Nat} {c : Addr} {cs : List PyData} {vs : List V} {rs : List Rv} (R : Rel K B ρ σ H) (hi : ρ[i]? = some (.own c cs)) (da : DpAll K B vs (rs.map Rv.dt)) : Rel K B (.own c cs :: datS rs) ((V.ref c :: vs).map some) H := by
  have R2 := rel_dat R.up da
  have hil : i < σ.length := by rw [← R.len]; exact (List.getElem?_eq_some_iff.mp hi).1
  obtain ⟨_, y⟩ := R.sl i _ _ hi (List.getElem?_eq_getElem hil)
  refine ⟨R.up, congrArg (· + 1) R2.len, fun j s o e1 e2 => ?_, fun j k p ds es e1 e2 => ?_⟩
  · cases j with
    | zero =>
      have e1 : some (Sl.own c cs) = some s := e1
      have e2 : some (some (V.ref c)) = some o := e2
      cases e1; cases e2
      exact ⟨rfl, y⟩
    | succ j => exact R2.sl j s o e1 e2
  · cases j with
    | zero =>
      cases k with
      | zero => rfl
      | succ k => obtain ⟨r, _, e⟩ := datS_get (rs := rs) e2; cases e
    | succ j => obtain ⟨r, _, e⟩ := datS_get (rs := rs) e1; cases e
theorem back_cup {K : PySem.W.Frag} {B H B' H' : Hp} {rs : List Rv} {as' ρ : Rho} {σ : L2.St} {i : Nat} {c : Addr} {cs cs' : List PyData} {vs : List V} (R : Rel K B ρ σ H) (hi : ρ[i]? = some (.own c cs)) (g : Go B (.own c cs :: datS rs) H B' (.own c cs' :: as') H')
    (R' : Rel K B' (.own c cs' :: as') ((V.ref c :: vs).map some) H') : Go B ρ H B' (ρ.set i (.own c cs')) H' ∧ Rel K B' (ρ.set i (.own c cs')) σ H' := by
  have hil : i < ρ.length := (List.getElem?_eq_some_iff.mp hi).1
  have co : c ∈ owns ρ := mem_owns.mpr ⟨i, cs, hi⟩
  have no : ∀ a, a ∉ owns ρ → a ∉ owns (.own c cs :: datS rs) := fun a h z => by
    rcases List.mem_cons.mp (show a ∈ c :: owns (datS rs) from z) with e | z
    · exact h (by rw [e]; exact co)
    · rw [owns_dat] at z; cases z
  have no2 : ∀ a, a ≠ c → a ∉ owns (.own c cs :: datS rs) := fun a h z => by
    rcases List.mem_cons.mp (show a ∈ c :: owns (datS rs) from z) with e | z
    · exact h e
    · rw [owns_dat] at z; cases z
  have y : SlOk K B' H' (.own c cs') (some (.ref c)) := R'.sl 0 _ _ rfl rfl
  refine ⟨⟨g.gr, fun a h => g.fr a (no a h), fun a o h => g.fm a o (no a h), fun p h => (owns_setN h).elim (fun e => .inl (by rw [e]; exact co)) .inl, g.th⟩, R'.up, by rw [List.length_set]; exact R.len, fun j s o e1 e2 => ?_, fun j k p ds es e1 e2 => ?_⟩
  · by_cases hj : i = j
    · subst hj
      rw [List.getElem?_set_self hil] at e1
      cases e1
      obtain ⟨ev, _⟩ := R.sl i _ _ hi e2
      rw [ev]; exact y
    · rw [List.getElem?_set_ne hj] at e1
      have x := R.sl j s o e1 e2
      cases s with
      | any => trivial
      | exn a d fs => exact ⟨x.1, x.2.up g.gr⟩
      | dat d =>
        obtain ⟨v, e, q⟩ := x
        exact ⟨v, e, Dp.up g.gr q⟩
      | own p ds =>
        obtain ⟨e, hb, ws, hv, a⟩ := x
        have ne : p ≠ c := fun z => hj (R.one i j c cs ds hi (by rw [← z]; exact e1))
        have hn : H p ≠ none := by rw [hv]; exact fun z => nomatch z
        exact ⟨e, g.fr p (no2 p ne) hb hn, ws, g.fm p _ (no2 p ne) hv, DpAll.up g.gr a⟩
  · have gg : ∀ (j : Nat) (fs : List PyData), (ρ.set i (Sl.own c cs'))[j]? = some (Sl.own p fs) → ∃ fs', ρ[j]? = some (Sl.own p fs') := fun j fs e => by
      by_cases hj : i = j
      · subst hj
        rw [List.getElem?_set_self hil] at e
        cases e
        exact ⟨cs, hi⟩
      · rw [List.getElem?_set_ne hj] at e; exact ⟨fs, e⟩
    obtain ⟨fs', e1'⟩ := gg j ds e1
    obtain ⟨gs', e2'⟩ := gg k es e2
    exact R.one j k p fs' gs' e1' e2'

/-- a def that X can call -/
structure Cal (X : Cx) (x : Str) (ps : List Str) (ds : List Value) (sp : BSp) : Prop where
  ex : ∃ (k : Nat) (f : Addr) (fd : FuncData), FnB X.prog X.w X.K X.mg X.base k f fd ps sp ∧ Room k X.A ∧ X.mg x = some (.ref f) ∧ PySem.W.keepIn X.K (.ref f) = true ∧ Binds X.K fd ps ds
  gu : X.A.guards = some []

section
variable {X : Cx} {Y : WY} {ρ : Rho} {D : Ed} {R : Rv → Rho → Prop} {a b c e : Expr} {es rest : List Expr} {pos p pos' apos : Pos} {x y : Str} {st : Stmt} {sts s1 s2 body : List Stmt} {ps : List Str} {sp : BSp}
/-- the callee runs -/
theorem run_fnB {k : Nat} {f : Addr} {fd : FuncData} {ds us : List Value} {dvs vs : List V} {as : Rho} {R' : Rv → Rho → Prop} {Y' : WY} {pins : List (Addr × Obj)} {σ : L2.St} {H B : Hp} {s : Shared} {Q : VK} {Wx : WX}
    (F : FnB X.prog X.w X.K X.mg X.base k f fd ps sp) (hr : Room k X.A) (hg : X.A.guards = some []) (hb : Binds X.K fd ps ds) (I : Inv X pins σ H s) (tk : Takes X Wx) (rv : Vals vs us) (rd : Vals dvs ds)
    (RR : Rel X.K B as ((vs ++ dvs).map some) H) (h : sp as R' Y') (hQ : ∀ v H', QB X.K B as (vs ++ dvs) H R' v H' → Q v H') (hE : ∀ cls d H', EB X.K B as (vs ++ dvs) H Y' cls d H' → Wx cls d σ H') : wpAny (model X.prog X.w) X.A (call (.ref f) us) (EP X pins σ Q) X.xe s := by
  have r2 : Vals (vs ++ dvs) (us ++ ds) := rv.append rd
  have hl : (us ++ ds).length = ps.length := by
    have h1 := RR.len
    rw [List.length_map, F.len _ _ _ h, r2.length] at h1
    exact h1.symm
  refine wpAny_call (codeAny_mono (F.run X.A X.stack s H B ⟨us, []⟩ (us ++ ds) (vs ++ dvs) as R' Y' hr hg I.env0 (hb s us I.kIn hl) r2 RR h) fun r s' hq => ?_)
  cases r with
  | error e => exact tk e s' (XE.of_call I hE hq)
  | ok fl =>
    cases fl with
    | ret u =>
      obtain ⟨v, H', J, rr, q⟩ := I.after hq
      exact ⟨v, H', J, rr, hQ v H' q⟩
    | next => exact False.elim hq
    | brk => exact False.elim hq
    | cont => exact False.elim hq
/-- f(e, ..): no list lent -/
theorem we_call {ds : List Value} {dvs : List V} {drs : List Rv} (C : Cal X x ps ds sp) (hd : Vals dvs ds) (hdd : ∀ K B, DpAll K B dvs (drs.map Rv.dt)) (hg : Gl X x) (hdb : (x == ("__debug__" : Str)) = false) (he : starEach (e :: es) X.env = (false, eval e X.env) :: starEach es X.env) (hpl : (backTo pos (starEach es X.env)).any (·.1) = false)
    (h : WA X Y (e :: es) ρ fun rs ρ1 => (∀ r ∈ rs, r.nob) ∧ sp (datS (rs ++ drs)) (fun r _ => R r ρ1) (fun c fs _ => Y c fs ρ1)) : WE X Y (.Call (.Name x p) (e :: es) [] pos) ρ R := by
  obtain ⟨k, f, fd, F, hr, hm, hk, hb⟩ := C.ex
  intro σ H B Q Wx tk rl q z pins s I
  refine wpAny_Call_Name_kw (ld_glob I hg hm ?_ hdb)
  refine PySem.W.callWith_K (h₀ := X.base) I.ok.mod.kin hk ?_ he hpl
  have h1 := h σ H B (fun vs H1 => ∃ rs B1 ρ1, Go B ρ H B1 ρ1 H1 ∧ Rel X.K B1 ρ1 σ H1 ∧ VsOk X.K H B1 ρ1 H1 vs rs ∧ (∀ r ∈ rs, r.nob) ∧ sp (datS (rs ++ drs)) (fun r _ => R r ρ1) (fun c fs _ => Y c fs ρ1)) Wx tk rl (fun vs rs B' ρ' H' g r' vo _ y => ⟨rs, B', ρ', g, r', vo, y⟩) z
  refine thn (h1 pos pins s I) fun us s1 ⟨vs, H1, I1, rv, rs, B1, ρ1, g1, rl1, vo, nb, hs⟩ => ⟨I1.kIn, ?_⟩
  obtain ⟨B2, g2, rl2, da, _⟩ := vo.freeze nb g1 rl1
  have da2 : DpAll X.K B2 (vs ++ dvs) ((rs ++ drs).map Rv.dt) := by rw [List.map_append]; exact DpAll.app da (hdd _ _)
  refine run_fnB F hr C.gu hb I1 tk rv hd (rel_dat rl2.up da2) hs (fun v H' hq => ?_) fun cls d H' hq => ?_
  · obtain ⟨r, B', as', g3, rl3, vo3, nb3, hR⟩ := hq
    obtain ⟨g4, rl4⟩ := back_dat rl2 g3 rl3.up
    exact q v r B' ρ1 H' (g2.trans g4) rl4 ((vok_dat rl2 nb3 vo3).org g2) hR
  · obtain ⟨c, fs, B', as', g3, rl3, xo, hY⟩ := hq
    obtain ⟨g4, rl4⟩ := back_dat rl2 g3 rl3.up
    exact z cls d c fs B' ρ1 σ H' rfl (g2.trans g4) rl4 xo hY
/-- f(c, e, ..): the list of slot i lent -/
theorem we_callC {ds : List Value} {dvs : List V} {drs : List Rv} (C : Cal X x ps ds sp) (hd : Vals dvs ds) (hdd : ∀ K B, DpAll K B dvs (drs.map Rv.dt)) (hg : Gl X x) (hdb : (x == ("__debug__" : Str)) = false) (he : starEach (e :: es) X.env = (false, eval e X.env) :: starEach es X.env) (hpl : (backTo pos (starEach es X.env)).any (·.1) = false)
    (h : WA X Y (e :: es) ρ fun rs ρ1 => ∃ i c cs tl, rs = .b i cs :: tl ∧ (∀ r ∈ tl, r.nob) ∧ ρ1[i]? = some (.own c cs) ∧ sp (.own c cs :: datS (tl ++ drs)) (fun r as' => ∃ cs' t, as' = .own c cs' :: t ∧ R r (ρ1.set i (.own c cs'))) (fun x fs as' => ∃ cs' t, as' = .own c cs' :: t ∧ Y x fs (ρ1.set i (.own c cs')))) : WE X Y (.Call (.Name x p) (e :: es) [] pos) ρ R := by
  obtain ⟨k, f, fd, F, hr, hm, hk, hb⟩ := C.ex
  intro σ H B Q Wx tk rl q z pins s I
  refine wpAny_Call_Name_kw (ld_glob I hg hm ?_ hdb)
  refine PySem.W.callWith_K (h₀ := X.base) I.ok.mod.kin hk ?_ he hpl
  have h1 := h σ H B (fun vs H1 => ∃ rs B1 ρ1, Go B ρ H B1 ρ1 H1 ∧ Rel X.K B1 ρ1 σ H1 ∧ VsOk X.K H B1 ρ1 H1 vs rs ∧ ∃ i c cs tl, rs = .b i cs :: tl ∧ (∀ r ∈ tl, r.nob) ∧ ρ1[i]? = some (.own c cs) ∧ sp (.own c cs :: datS (tl ++ drs)) (fun r as' => ∃ cs' t, as' = .own c cs' :: t ∧ R r (ρ1.set i (.own c cs'))) (fun x fs as' => ∃ cs' t, as' = .own c cs' :: t ∧ Y x fs (ρ1.set i (.own c cs')))) Wx tk rl (fun vs rs B' ρ' H' g r' vo _ y => ⟨rs, B', ρ', g, r', vo, y⟩) z
  refine thn (h1 pos pins s I) fun us s1 ⟨vs, H1, I1, rv, rs, B1, ρ1, g1, rl1, vo, i, cc, cs, tl, er, nb, hi, hs⟩ => ⟨I1.kIn, ?_⟩
  subst er
  cases vo with
  | @cons v1 _ vs' _ x1 t1 =>
    obtain ⟨p1, rfl, ep⟩ := x1
    rw [hi] at ep
    cases ep
    obtain ⟨B2, g2, rl2, da, _⟩ := t1.freeze nb g1 rl1
    have da2 : DpAll X.K B2 (vs' ++ dvs) ((tl ++ drs).map Rv.dt) := by rw [List.map_append]; exact DpAll.app da (hdd _ _)
    refine run_fnB F hr C.gu hb I1 tk rv hd (rel_cup rl2 hi da2) hs (fun v H' hq => ?_) fun cls d H' hq => ?_
    · obtain ⟨r, B', as', g3, rl3, vo3, nb3, cs', t, rfl, hR⟩ := hq
      obtain ⟨g4, rl4⟩ := back_cup rl2 hi g3 rl3
      have vo4 : VOk X.K H1 B' (ρ1.set i (.own cc cs')) H' v r := by
        cases r with
        | d d => exact vo3
        | b i ds => exact nb3.elim
        | n ds =>
          obtain ⟨p, ws, e, h0, hb', no, hp, a⟩ := vo3
          refine ⟨p, ws, e, h0, hb', fun w => ?_, hp, a⟩
          rcases owns_setN w with e2 | w
          · obtain ⟨_, us', hu⟩ := rl2.own_there (mem_owns.mpr ⟨i, cs, hi⟩)
            rw [e2, hu] at h0; cases h0
          · obtain ⟨_, us', hu⟩ := rl2.own_there w
            rw [hu] at h0; cases h0
      exact q v r B' _ H' (g2.trans g4) rl4 (vo4.org g2) hR
    · obtain ⟨c', fs, B', as', g3, rl3, xo, cs', t, rfl, hY⟩ := hq
      obtain ⟨g4, rl4⟩ := back_cup rl2 hi g3 rl3
      exact z cls d c' fs B' _ σ H' rfl (g2.trans g4) rl4 xo hY

/-! ### own lists written -/
theorem w1_append (i : Nat) {hap : attributeBase (.Name x p) "append" X.env (eval (.Name x p) X.env) = eval (.Name x p) X.env} (hN : X.N[i]? = some x) (hv : Vis X.env.scope x) (hd : (x == ("__debug__" : Str)) = false) (hcd : (x == ("__classdict__" : Str)) = false)
    (hfew : ((backTo pos' (starEach [e] X.env)).all (fun x => !x.1) && (backToKw pos' (keywordEach [] X.env)).all (fun x => x.1.isSome) && decide ([e].length + ([] : List Keyword).length + (if ([] : List Keyword).isEmpty then 0 else 1) < 30)) = true)
    (hline : (apos.endLine == pos'.line) = true) (hs : starEach [e] X.env = (false, eval e X.env) :: starEach [] X.env) (hpl : (backTo pos' (starEach [] X.env)).any (·.1) = false) (hsw : swapsWith (.Call (.Attribute (.Name x p) "append" apos) [e] [] pos') none pos.line X.env = pure false)
    (q0 : Addr) (ds0 : List PyData) (h0 : ρ[i]? = some (.own q0 ds0))
    (h : WA X Y [e] ρ fun rs ρ1 => ∃ r ds, rs = [r] ∧ r.nob ∧ ρ1[i]? = some (.own q0 ds) ∧ ds.length < 100000 ∧ D.nx (ρ1.set i (.own q0 (ds ++ [r.dt])))) : W1 X Y (.Expr (.Call (.Attribute (.Name x p) "append" apos) [e] [] pos') pos) ρ D :=
  W1.of (ps_expr (pe_bm PySem.F.plainAttrs_list PySem.F.slot_list_append PySem.F.type_list_append mt_append (pe_var hN hv hd hcd) pa_sA hap hfew hline hs hpl) hsw) fun σ H B C Wx tk rl q z => by
    have hil : i < σ.length := by rw [← rl.len]; exact (List.getElem?_eq_some_iff.mp h0).1
    obtain ⟨ev, _, vs0, hv0, _⟩ := rl.sl i _ _ h0 (List.getElem?_eq_getElem hil)
    refine ⟨.ref q0, (List.getElem?_eq_getElem hil).trans (congrArg some ev), .inl ⟨rfl, vs0, .of hv0⟩, ?_⟩
    refine h σ H B _ Wx tk rl (fun vs rs B1 ρ1 H1 g1 rl1 vo _ hk => ?_) z
    obtain ⟨r, ds, rfl, nb, hi, hl, hD⟩ := hk
    obtain ⟨B2, g2, rl2, da, _⟩ := vo.freeze (fun r' hr => by rw [List.mem_singleton.mp hr]; exact nb) g1 rl1
    cases da with
    | @cons v _ _ _ dv t =>
      cases t
      have hil1 : i < σ.length := hil
      obtain ⟨_, _, us, hu, au⟩ := rl2.sl i _ _ hi (List.getElem?_eq_getElem hil)
      refine ⟨q0, us, v, rfl, rfl, hu, by rw [DpAll.len au]; exact Nat.lt_of_lt_of_le hl (by decide), ?_⟩
      exact q.nx σ B2 _ _ rfl (g2.write hi) (rl2.write hi (DpAll.app au (DpAll.one dv))) hD
/-- x[k] = e -/
theorem w1_setItem {idx : Expr} {spos : Pos} (i : Nat) (hN : X.N[i]? = some x) (hv : Vis X.env.scope x) (hd : (x == ("__debug__" : Str)) = false) (hcd : (x == ("__classdict__" : Str)) = false)
    (ha : ∀ v, assign (.Subscript (.Name x p) idx spos) X.env v = (do
      let ov ← holding [v] (eval (.Name x p) X.env)
      let iv ← holding [v, ov] (eval idx X.env)
      standAt spos
      holding [v, ov, iv] (setItem ov iv v)
      release [v, ov, iv] []))
    (hs : swapsWithSole [.Subscript (.Name x p) idx spos] e pos.line X.env = pure false) (hw : swappedStores [.Subscript (.Name x p) idx spos] e X.env = pure none) (h1 : (assignEach [.Subscript (.Name x p) idx spos] X.env).map (·.2) = [assign (.Subscript (.Name x p) idx spos) X.env])
    (h : WE X Y e ρ fun r ρ1 => r.nob ∧ ∃ q0 ds0, ρ1[i]? = some (.own q0 ds0) ∧ WE X Y idx ρ1 fun k ρ2 => ∃ j n ds, k.dt = .int j ∧ ρ2[i]? = some (.own q0 ds) ∧ ixN ds.length j = some n ∧ D.nx (ρ2.set i (.own q0 (ds.set n r.dt)))) : W1 X Y (.Assign [.Subscript (.Name x p) idx spos] e pos) ρ D :=
  W1.of (ps_asg pe_sE (pg_sub (pe_var hN hv hd hcd) pe_sE set_list ha) hs hw h1) fun σ H B C Wx tk rl q z => h.run tk rl (fun v r B1 ρ1 H1 g1 rl1 vo hk => by
    obtain ⟨nb, q0, ds0, h0, hidx⟩ := hk
    have hil : i < σ.length := by rw [← rl1.len]; exact (List.getElem?_eq_some_iff.mp h0).1
    obtain ⟨ev, _⟩ := rl1.sl i _ _ h0 (List.getElem?_eq_getElem hil)
    refine ⟨.ref q0, (List.getElem?_eq_getElem hil).trans (congrArg some ev), ?_⟩
    refine hidx.run tk rl1 (fun kv kr B2 ρ2 H2 g2 rl2 ko hk2 => ?_) (z.on g1 rfl)
    obtain ⟨j, n, ds, ek, hi, hn, hD⟩ := hk2
    have w := ko.vw rl2
    rw [ek] at w
    have vo2 : VOk X.K H B2 ρ2 H2 v r := vo.on g2 (by cases r <;> first | trivial | exact nb.elim)
    obtain ⟨B3, g3, rl3, dv, _, _⟩ := VOk.freeze (fun i ds e => by rw [e] at nb; exact nb) (g1.trans g2) rl2 vo2
    obtain ⟨_, _, us, hu, au⟩ := rl3.sl i _ _ hi (List.getElem?_eq_getElem hil)
    refine ⟨q0, us, j, n, rfl, w.int, hu, by rw [DpAll.len au]; exact hn, ?_⟩
    exact q.nx σ B3 _ _ rfl (g3.write hi) (rl3.write hi (DpAll.set dv n au)) hD) z
end
end Bs
set_option maxHeartbeats 2000000
namespace Bs
open PySem PySem.Spec PyProof.Rows PySem.Calls L2
section
variable {prog : Program} {w : World} {A : Around} {E : Value → Shared → Prop} {h : Heap} {g : Array GenState} {d : Drawn} {t : Nat} {os : OsState}
theorem cls_gen {u : Value} {T ga : String} {Q : Value → Shared → Prop} (hT : (⟨h, g, d, t + 1, os⟩ : Shared).TypeIs u T) (f2 : typeLookup (.type T) "__getattribute__" = pure (some (.builtin ga))) (f3 : bindSpecial (.builtin ga) u = pure (.builtin ga, [u]))
    (call : ∀ {R : Result → Shared → Prop}, R (.ok (.ret (.type T))) ⟨h, g, d, t + 1, os⟩ → codeAny (model prog w) A (.call (.builtin ga) ⟨[u, .str "__class__" t], []⟩) R ⟨h, g, d, t + 1, os⟩) (hq : Q (.type T) ⟨h, g, d, t + 1, os⟩) : wpAny (model prog w) A (getAttr u "__class__" true) Q E ⟨h, g, d, t, os⟩ := by
  unfold getAttr
  repeat (any_goals (first | assumption | wp_step))
  refine call ?_
  repeat (any_goals (first | assumption | wp_step))
theorem cls_int {n : Int} {u : Tok} {Q : Value → Shared → Prop} (hq : Q (.type "int") ⟨h, g, d, t + 1, os⟩) : wpAny (model prog w) A (getAttr (.int n u) "__class__" true) Q E ⟨h, g, d, t, os⟩ :=
  cls_gen (T := "int") rfl F.slot_int_getattribute.lookup (F.slot_int_getattribute.bind (.int n u)) (fun q => class_call_int q) hq
theorem cls_bool {x : Bool} {Q : Value → Shared → Prop} (hq : Q (.type "bool") ⟨h, g, d, t + 1, os⟩) : wpAny (model prog w) A (getAttr (.bool x) "__class__" true) Q E ⟨h, g, d, t, os⟩ :=
  cls_gen (T := "bool") rfl F.slot_bool_getattribute.lookup (F.slot_bool_getattribute.bind (.bool x)) (fun q => class_call_bool q) hq
theorem cls_str {x : Str} {u : Tok} {Q : Value → Shared → Prop} (hq : Q (.type "str") ⟨h, g, d, t + 1, os⟩) : wpAny (model prog w) A (getAttr (.str x u) "__class__" true) Q E ⟨h, g, d, t, os⟩ :=
  cls_gen (T := "str") rfl F.slot_str_getattribute.lookup (F.slot_str_getattribute.bind (.str x u)) (fun q => class_call_str q) hq
theorem cls_none {Q : Value → Shared → Prop} (hq : Q (.type "NoneType") ⟨h, g, d, t + 1, os⟩) : wpAny (model prog w) A (getAttr .none "__class__" true) Q E ⟨h, g, d, t, os⟩ :=
  cls_gen (T := "NoneType") rfl F.slot_NoneType_getattribute.lookup (F.slot_NoneType_getattribute.bind .none) (fun q => class_call_none q) hq
theorem cls_list {a : Addr} {o : Obj} {Q : Value → Shared → Prop} (hx : h.get? a = some o) (hc : o.cls = .type "list") (hq : Q (.type "list") ⟨h, g, d, t + 1, os⟩) : wpAny (model prog w) A (getAttr (.ref a) "__class__" true) Q E ⟨h, g, d, t, os⟩ :=
  cls_gen (T := "list") ⟨_, hx, hc⟩ F.slot_list_getattribute.lookup (F.slot_list_getattribute.bind (.ref a)) (fun q => class_call_list hx hc q) hq
theorem cls_tuple {a : Addr} {o : Obj} {Q : Value → Shared → Prop} (hx : h.get? a = some o) (hc : o.cls = .type "tuple") (hq : Q (.type "tuple") ⟨h, g, d, t + 1, os⟩) : wpAny (model prog w) A (getAttr (.ref a) "__class__" true) Q E ⟨h, g, d, t, os⟩ :=
  cls_gen (T := "tuple") ⟨_, hx, hc⟩ F.slot_tuple_getattribute.lookup (F.slot_tuple_getattribute.bind (.ref a)) (fun q => class_call_tuple hx hc q) hq
end
/-- the name of a datum's class -/
def tyN : PyData → String
  | .none => "NoneType"
  | .bool _ => "bool"
  | .int _ => "int"
  | .str _ => "str"
  | .list _ => "list"
  | .tuple _ => "tuple"
  | .dict _ => "dict"
/-- what the text's own head must give: the classes' names -/
def TyNames (K : PySem.W.Frag) : Prop := ∀ T ∈ ["NoneType", "bool", "int", "str", "list", "tuple"], PySem.W.findCls K (.type T) (.type "type") "__name__" = some (.get (.builtin "getset_descriptor.__get__") (.builtin "type.__name__") (.type T) (.type "type"))
theorem tyN_mem : ∀ {d : PyData}, (∀ kvs, d ≠ .dict kvs) → tyN d ∈ ["NoneType", "bool", "int", "str", "list", "tuple"]
  | .none, _ => by simp [tyN]
  | .bool _, _ => by simp [tyN]
  | .int _, _ => by simp [tyN]
  | .str _, _ => by simp [tyN]
  | .list _, _ => by simp [tyN]
  | .tuple _, _ => by simp [tyN]
  | .dict kvs, h => absurd rfl (h kvs)
theorem ty_fast : ∀ T ∈ ["NoneType", "bool", "int", "str", "list", "tuple"], PySem.W.ktynFast T = T ∧ PySem.W.kitMeta T = true ∧ Manifest.isStub T = false ∧ (Str.ofString T).length ≤ sizeLine := by
  intro T hT
  simp only [List.mem_cons, List.not_mem_nil, or_false] at hT
  rcases hT with rfl | rfl | rfl | rfl | rfl | rfl <;> exact ⟨by decide +kernel, by decide +kernel, by decide +kernel, by decide +kernel⟩
section
variable {X : Cx} {Y : WY} {ρ : Rho} {R : Rv → Rho → Prop} {e : Expr} {pos p : Pos}
theorem dp_cls {pins : List (Addr × Obj)} {σ : L2.St} {H : Hp} {s : Shared} {d : PyData} {v : V} {u : Value} {Q : Value → Shared → Prop} (I : Inv X pins σ H s) (dv : Dp X.K H v d) (rv : RelV v u) (k : Q (.type (tyN d)) { s with toks := s.toks + 1 }) :
    wpAny (model X.prog X.w) X.A (getAttr u "__class__" true) Q X.xe s := by
  obtain ⟨hp, g, dd, t, os⟩ := s
  cases dv with
  | non => cases rv; exact cls_none k
  | bl b => cases rv; exact cls_bool k
  | int i => obtain ⟨tk, rfl⟩ := rv; exact cls_int k
  | str x => obtain ⟨tk, rfl⟩ := rv; exact cls_str k
  | lst s _ =>
    cases rv
    obtain ⟨its, _, ⟨o, n, e, c, _⟩, _⟩ := I.list s
    exact cls_list e c k
  | tup s _ =>
    cases rv
    obtain ⟨its, _, ⟨o, e, c, _⟩, _⟩ := I.tuple s
    exact cls_tuple e c k
theorem nodict {K : PySem.W.Frag} {H : Hp} {v : V} {d : PyData} (h : Dp K H v d) : ∀ kvs, d ≠ .dict kvs := fun kvs e => by subst e; cases h
/-- e.__class__.__name__ -/
theorem we_clsName (hN : TyNames X.K) (hb1 : attributeBase (.Attribute e "__class__" p) "__name__" X.env (eval (.Attribute e "__class__" p) X.env) = eval (.Attribute e "__class__" p) X.env) (hb2 : attributeBase e "__class__" X.env (eval e X.env) = eval e X.env)
    (h : WE X Y e ρ fun r ρ1 => R (.d (.str (Str.ofString (tyN r.dt)))) ρ1) : WE X Y (.Attribute (.Attribute e "__class__" p) "__name__" pos) ρ R := by
  intro σ H B Q Wx tk rl q z pins s I
  refine attr_of hb1 (attr_of hb2 ?_)
  have h1 := h σ H B (fun v H1 => ∃ r B1 ρ1, Go B ρ H B1 ρ1 H1 ∧ Rel X.K B1 ρ1 σ H1 ∧ VOk X.K H B1 ρ1 H1 v r ∧ R (.d (.str (Str.ofString (tyN r.dt)))) ρ1) Wx tk rl (fun v r B' ρ' H' g r' vo y => ⟨r, B', ρ', g, r', vo, y⟩) z
  refine thn (h1 pins s I) fun u s1 ⟨v, H1, I1, rv, r, B1, ρ1, g1, rl1, vo, hR⟩ => ?_
  have dv := (vo.vw rl1).dp rl1.up
  refine dp_cls I1 dv rv ?_
  obtain ⟨f1, f2, f3, f4⟩ := ty_fast _ (tyN_mem (nodict dv))
  obtain ⟨m, F⟩ := (I1.tok (s1.toks + 1)).fr
  refine PySem.W.ktyn_attr F I1.ok.mod.kin f2 f3 (hN _ (tyN_mem (nodict dv))) f1 f4 fun tk2 u2 => ?_
  exact ⟨.str _, H1, (I1.tok (s1.toks + 1)).tok u2, ⟨_, rfl⟩, q _ (.d (.str _)) B1 ρ1 H1 g1 rl1 (Dp.str _) hR⟩
end
end Bs
set_option maxHeartbeats 2000000
namespace Bs
open PySem PySem.Spec PyProof.Rows L2

abbrev Shp (d : PyData) : Prop := SeqAt.shaped d = true
/-! ### operators over data -/
inductive SAdd : PyData → PyData → Rv → Prop
  | int (i j : Int) : SAdd (.int i) (.int j) (.d (.int (i + j)))
  | str (a b : Str) (h : a.length + b.length ≤ sizeLine) : SAdd (.str a) (.str b) (.d (.str (a ++ b)))
  | tup (xs ys : List PyData) (h : xs.length + ys.length ≤ sizeLine) : SAdd (.tuple xs) (.tuple ys) (.d (.tuple (xs ++ ys)))
abbrev rAddA (X : Cx) : R2 := fun x y H Q => (rI0 fun i j => .int (i + j)) x y H Q ∨ ((∃ i j, x = .str i ∧ y = .str j ∧ i.length + j.length ≤ sizeLine ∧ Q (.str (i ++ j)) H) ∨ rCatA X.K x y H Q)
theorem op_addA {X : Cx} : OpR X (binaryOp .Add) (rAddA X) := op_add.or (op_add_str.or op_catA)
theorem o2_add : Op2 rAddA SAdd := fun X B H x y d e z Q s u vx vy k => by
  cases s with
  | int i j => exact .inl ⟨i, j, vx.int, vy.int, k _ B H (.sc (.int _))⟩
  | str a b h => exact .inr (.inl ⟨a, b, vx.str, vy.str, h, k _ B H (.sc (.str _))⟩)
  | tup xs ys h =>
    obtain ⟨a, vs, rfl, sB, sH, da⟩ := vx.tup u
    obtain ⟨b, ws, rfl, tB, tH, db⟩ := vy.tup u
    refine .inr (.inr ⟨a, b, vs, ws, rfl, rfl, sH, tH, by rw [DpAll.len da, DpAll.len db]; exact h, fun e => ?_, fun _ e => ?_, fun _ _ p hp => ?_⟩)
    · subst e
      cases da
      exact k _ B H (.sc (.tup tB db))
    · subst e
      cases db
      exact k _ B H (.sc (by rw [List.append_nil]; exact .tup sB da))
    · exact k _ _ _ (.ld hp (.tup (.of upd_same) (DpAll.up (Up.new (none_up u hp)) (DpAll.app da db))))
inductive SI2 (f : Int → Int → Int) (C : Int → Int → Prop) : PyData → PyData → Rv → Prop
  | mk (i j : Int) (h : C i j) : SI2 f C (.int i) (.int j) (.d (.int (f i j)))
theorem o2_I {f : Int → Int → Int} {C : Int → Int → Prop} : Op2 (fun _ => rI C fun i j => .int (f i j)) (SI2 f C) := fun X B H x y d e z Q s u vx vy k => by
  cases s with
  | mk i j h => exact ⟨i, j, vx.int, vy.int, h, k _ B H (.sc (.int _))⟩
theorem o2_I0 {f : Int → Int → Int} : Op2 (fun _ => rI0 fun i j => .int (f i j)) (SI2 f fun _ _ => True) := fun X B H x y d e z Q s u vx vy k => by
  cases s with
  | mk i j h => exact ⟨i, j, vx.int, vy.int, k _ B H (.sc (.int _))⟩
inductive SC2 (f : Int → Int → Bool) : PyData → PyData → Rv → Prop
  | mk (i j : Int) : SC2 f (.int i) (.int j) (.d (.bool (f i j)))
theorem o2_C {f : Int → Int → Bool} : Op2 (fun _ => rI0 fun i j => .bl (f i j)) (SC2 f) := fun X B H x y d e z Q s u vx vy k => by
  cases s with
  | mk i j => exact ⟨i, j, vx.int, vy.int, k _ B H (.sc (.bl _))⟩
/-- ==, != of data -/
inductive SEq : PyData → PyData → Rv → Prop
  | mk (d e : PyData) (h1 : Shp d) (h2 : Shp e) : SEq d e (.d (.bool (PyData.eqv d e)))
inductive SNe : PyData → PyData → Rv → Prop
  | mk (d e : PyData) (h1 : Shp d) (h2 : Shp e) : SNe d e (.d (.bool (!PyData.eqv d e)))
theorem o2_eq : Op2 (fun X => rEqD X.K) SEq := fun X B H x y d e z Q s u vx vy k => by
  cases s with
  | mk h1 h2 => exact ⟨d, e, vx.dp u, vy.dp u, h1, h2, k _ B H (.sc (.bl _))⟩
theorem o2_ne : Op2 (fun X => rNeD X.K) SNe := fun X B H x y d e z Q s u vx vy k => by
  cases s with
  | mk h1 h2 => exact ⟨d, e, vx.dp u, vy.dp u, h1, h2, k _ B H (.sc (.bl _))⟩
/-- in, not in: an item of a list, of a tuple -/
def rInA (K : PySem.W.Frag) (neg : Bool) : R2 := fun x y H Q => ∃ d e ds, Dp K H x d ∧ Dp K H y e ∧ (e = .list ds ∨ e = .tuple ds) ∧ Shp d ∧ Shp e ∧ Q (.bl (if neg then !ds.any fun z => PyData.eqv z d else ds.any fun z => PyData.eqv z d)) H
theorem op_inA {X : Cx} (hu : X.A.units + 65 < cLine) : OpR X (compareOp .In) (rInA X.K false) := by
  intro pins s σ H x y v u Q I rx ry h
  obtain ⟨d, e, ds, hd, he, hc, sd, se, q⟩ := h
  obtain ⟨as, r1⟩ := Dp.reads I d x v hd rx
  obtain ⟨bs, r2⟩ := Dp.reads I e y u he ry
  rcases hc with rfl | rfl
  · exact SeqAt.in_list_reads r2 r1 (SeqAt.canLay_of_shaped se) (SeqAt.canLay_of_shaped sd) (room_in_shaped sd hu) ⟨.bl _, H, I, rfl, q⟩
  · exact SeqAt.in_tuple_reads r2 r1 (SeqAt.canLay_of_shaped se) (SeqAt.canLay_of_shaped sd) (room_in_shaped sd hu) ⟨.bl _, H, I, rfl, q⟩
theorem op_notInA {X : Cx} (hu : X.A.units + 65 < cLine) : OpR X (compareOp .NotIn) (rInA X.K true) := by
  intro pins s σ H x y v u Q I rx ry h
  obtain ⟨d, e, ds, hd, he, hc, sd, se, q⟩ := h
  obtain ⟨as, r1⟩ := Dp.reads I d x v hd rx
  obtain ⟨bs, r2⟩ := Dp.reads I e y u he ry
  rcases hc with rfl | rfl
  · exact SeqAt.notIn_list_reads r2 r1 (SeqAt.canLay_of_shaped se) (SeqAt.canLay_of_shaped sd) (room_in_shaped sd hu) ⟨.bl _, H, I, rfl, q⟩
  · exact SeqAt.notIn_tuple_reads r2 r1 (SeqAt.canLay_of_shaped se) (SeqAt.canLay_of_shaped sd) (room_in_shaped sd hu) ⟨.bl _, H, I, rfl, q⟩
inductive SIn (neg : Bool) : PyData → PyData → Rv → Prop
  | lst (d : PyData) (ds : List PyData) (h1 : Shp d) (h2 : Shp (.list ds)) : SIn neg d (.list ds) (.d (.bool (if neg then !ds.any fun z => PyData.eqv z d else ds.any fun z => PyData.eqv z d)))
  | tup (d : PyData) (ds : List PyData) (h1 : Shp d) (h2 : Shp (.tuple ds)) : SIn neg d (.tuple ds) (.d (.bool (if neg then !ds.any fun z => PyData.eqv z d else ds.any fun z => PyData.eqv z d)))
theorem o2_in {neg : Bool} : Op2 (fun X => rInA X.K neg) (SIn neg) := fun X B H x y d e z Q s u vx vy k => by
  cases s with
  | lst ds h1 h2 => exact ⟨_, _, ds, vx.dp u, vy.dp u, .inl rfl, h1, h2, k _ B H (.sc (.bl _))⟩
  | tup ds h1 h2 => exact ⟨_, _, ds, vx.dp u, vy.dp u, .inr rfl, h1, h2, k _ B H (.sc (.bl _))⟩
/-- a sign in a text -/
inductive SInS (neg : Bool) : PyData → PyData → Rv → Prop
  | mk (c : Nat) (z : Str) : SInS neg (.str ⟨#[c]⟩) (.str z) (.d (.bool (if neg then !decide (c ∈ z.cps.toList) else decide (c ∈ z.cps.toList))))
def rInSA (neg : Bool) : R2 := fun x y H Q => ∃ (c : Nat) (z : Str), x = .str ⟨#[c]⟩ ∧ y = .str z ∧ Q (.bl (if neg then !decide (c ∈ z.cps.toList) else decide (c ∈ z.cps.toList))) H
theorem op_inSA {X : Cx} : OpR X (compareOp .In) (rInSA false) := op_in_sign
theorem op_notInSA {X : Cx} : OpR X (compareOp .NotIn) (rInSA true) := op_notIn_sign
theorem o2_inS {neg : Bool} : Op2 (fun _ => rInSA neg) (SInS neg) := fun X B H x y d e z Q s u vx vy k => by
  cases s with
  | mk c z => exact ⟨c, z, vx.str, vy.str, k _ B H (.sc (.bl _))⟩
/-- t < u, tuples of ints -/
def intsD (ns : List Int) : List PyData := ns.map PyData.int
theorem ints_vals {K : PySem.W.Frag} {B : Hp} : ∀ {ns : List Int} {vs : List V}, DpAll K B vs (intsD ns) → vs = ns.map V.int
  | [], _, .nil => rfl
  | n :: ns, _, .cons (.int _) t => congrArg (V.int n :: ·) (ints_vals t)
inductive SLtT : PyData → PyData → Rv → Prop
  | mk (ns ms : List Int) : SLtT (.tuple (intsD ns)) (.tuple (intsD ms)) (.d (.bool (HT.lexLt ns ms)))
theorem o2_ltT : Op2 (fun X => rLtT X.K) SLtT := fun X B H x y d e z Q s u vx vy k => by
  cases s with
  | mk ns ms =>
    obtain ⟨a, vs, rfl, _, sH, da⟩ := vx.tup u
    obtain ⟨b, ws, rfl, _, tH, db⟩ := vy.tup u
    rw [ints_vals da] at sH
    rw [ints_vals db] at tH
    exact ⟨a, b, ns, ms, rfl, rfl, sH, tH, k _ B H (.sc (.bl _))⟩
/-! ### subscripts -/
inductive SIx : PyData → PyData → Rv → Prop
  | lst (ds : List PyData) (i : Int) (d : PyData) (h : atI ds i = some d) : SIx (.list ds) (.int i) (.d d)
  | tup (ds : List PyData) (i : Int) (d : PyData) (h : atI ds i = some d) : SIx (.tuple ds) (.int i) (.d d)
  | str (z : Str) (i : Int) (c : Nat) (hz : z.length ≤ sizeLine) (h : atI z.cps.toList i = some c) : SIx (.str z) (.int i) (.d (.str ⟨#[c]⟩))
theorem atI_dp {K : PySem.W.Frag} {B : Hp} {vs : List V} {ds : List PyData} {i : Int} {d : PyData} (a : DpAll K B vs ds) (h : atI ds i = some d) : ∃ v, atI vs i = some v ∧ Dp K B v d := by
  unfold atI at h ⊢
  rw [DpAll.len a]
  cases e : ixN ds.length i with
  | none => rw [e] at h; cases h
  | some j => rw [e] at h; exact DpAll.get a h
theorem o2_ix : Op2 (fun X => rIx X.K) SIx := fun X B H x y d e z Q s u vx vy k => by
  cases s with
  | lst ds i d h =>
    obtain ⟨a, vs, rfl, sH, da⟩ := vx.lst u
    obtain ⟨v, hv, dv⟩ := atI_dp da h
    exact .inl ⟨a, vs, i, v, rfl, vy.int, sH, hv, k _ B H (.sc dv)⟩
  | tup ds i d h =>
    obtain ⟨a, vs, rfl, _, sH, da⟩ := vx.tup u
    obtain ⟨v, hv, dv⟩ := atI_dp da h
    exact .inr (.inl ⟨a, vs, i, v, rfl, vy.int, sH, hv, k _ B H (.sc dv)⟩)
  | str z i c hz h => exact .inr (.inr ⟨z, i, c, vx.str, vy.int, hz, h, k _ B H (.sc (.str _))⟩)
/-! ### calls -/
theorem vwa1 {K : PySem.W.Frag} {B H : Hp} {vs : List V} {d : PyData} (h : VwA K B H vs [d]) : ∃ v, vs = [v] ∧ Vw K B H v d := by
  cases h with
  | cons a t => cases t; exact ⟨_, rfl, a⟩
theorem vwa2 {K : PySem.W.Frag} {B H : Hp} {vs : List V} {d e : PyData} (h : VwA K B H vs [d, e]) : ∃ v w, vs = [v, w] ∧ Vw K B H v d ∧ Vw K B H w e := by
  cases h with
  | cons a t =>
    cases t with
    | cons b t => cases t; exact ⟨_, _, rfl, a, b⟩
inductive SLen : List PyData → Rv → Prop
  | lst (ds : List PyData) : SLen [.list ds] (.d (.int ds.length))
  | tup (ds : List PyData) : SLen [.tuple ds] (.d (.int ds.length))
  | str (x : Str) (h : x.length ≤ sizeLine) : SLen [.str x] (.d (.int x.length))
def rLenA (K : PySem.W.Frag) : List V → Hp → VK → Prop := fun xs H Q => ∃ x n, xs = [x] ∧ LenV K x H n ∧ Q (.int n) H
theorem oN_len : OpN (fun X => rLenA X.K) SLen := fun X B H vs ds z Q s u vx k => by
  cases s with
  | lst ds =>
    obtain ⟨v, rfl, w⟩ := vwa1 vx
    obtain ⟨a, ws, rfl, sH, da⟩ := w.lst u
    exact ⟨.ref a, ds.length, rfl, .inl ⟨ws, sH, (DpAll.len da).symm⟩, k _ B H (.sc (.int _))⟩
  | tup ds =>
    obtain ⟨v, rfl, w⟩ := vwa1 vx
    obtain ⟨a, ws, rfl, _, sH, da⟩ := w.tup u
    exact ⟨.ref a, ds.length, rfl, .inr ⟨ws, sH, (DpAll.len da).symm⟩, k _ B H (.sc (.int _))⟩
  | str x h =>
    obtain ⟨v, rfl, w⟩ := vwa1 vx
    rw [w.str]
    exact ⟨.str x, x.length, rfl, ⟨h, rfl⟩, k _ B H (.sc (.int _))⟩
inductive SInt : List PyData → Rv → Prop
  | int (i : Int) : SInt [.int i] (.d (.int i))
  | bl (b : Bool) : SInt [.bool b] (.d (.int (if b then 1 else 0)))
def rIntA : List V → Hp → VK → Prop := fun xs H Q => (∃ i, xs = [.int i] ∧ Q (.int i) H) ∨ ∃ k, xs = [.bl k] ∧ Q (.int (if k then 1 else 0)) H
theorem oN_int : OpN (fun _ => rIntA) SInt := fun X B H vs ds z Q s u vx k => by
  cases s with
  | int i =>
    obtain ⟨v, rfl, w⟩ := vwa1 vx
    rw [w.int]
    exact .inl ⟨i, rfl, k _ B H (.sc (.int _))⟩
  | bl b =>
    obtain ⟨v, rfl, w⟩ := vwa1 vx
    rw [w.bl]
    exact .inr ⟨b, rfl, k _ B H (.sc (.int _))⟩
/-- tuple(xs), list(xs) -/
inductive STup : List PyData → Rv → Prop
  | lst (ds : List PyData) : STup [.list ds] (.d (.tuple ds))
  | tup (ds : List PyData) : STup [.tuple ds] (.d (.tuple ds))
def rTupA (K : PySem.W.Frag) : List V → Hp → VK → Prop := fun xs H Q => ∃ p ys, xs = [.ref p] ∧ ((SqL K H p ys ∧ ∀ l, H l = none → Q (.ref l) (upd H l (.tup ys))) ∨ (SqT K H p ys ∧ Q (.ref p) H))
theorem oN_tup : OpN (fun X => rTupA X.K) STup := fun X B H vs ds z Q s u vx k => by
  cases s with
  | lst ds =>
    obtain ⟨v, rfl, w⟩ := vwa1 vx
    obtain ⟨a, ws, rfl, sH, da⟩ := w.lst u
    exact ⟨a, ws, rfl, .inl ⟨sH, fun l hl => k _ _ _ (.ld hl (.tup (.of upd_same) (DpAll.up (Up.new (none_up u hl)) da)))⟩⟩
  | tup ds =>
    obtain ⟨v, rfl, w⟩ := vwa1 vx
    obtain ⟨a, ws, rfl, sB, sH, da⟩ := w.tup u
    exact ⟨a, ws, rfl, .inr ⟨sH, k _ B H (.sc (.tup sB da))⟩⟩
inductive SLst : List PyData → Rv → Prop
  | lst (ds : List PyData) : SLst [.list ds] (.n ds)
  | tup (ds : List PyData) : SLst [.tuple ds] (.n ds)
def rLstA (K : PySem.W.Frag) : List V → Hp → VK → Prop := fun xs H Q => ∃ p ys, xs = [.ref p] ∧ (SqL K H p ys ∨ SqT K H p ys) ∧ ∀ l, H l = none → Q (.ref l) (upd H l (.lst ys))
theorem oN_lst : OpN (fun X => rLstA X.K) SLst := fun X B H vs ds z Q s u vx k => by
  cases s with
  | lst ds =>
    obtain ⟨v, rfl, w⟩ := vwa1 vx
    obtain ⟨a, ws, rfl, sH, da⟩ := w.lst u
    exact ⟨a, ws, rfl, .inl sH, fun l hl => k _ _ _ (.nw hl da)⟩
  | tup ds =>
    obtain ⟨v, rfl, w⟩ := vwa1 vx
    obtain ⟨a, ws, rfl, _, sH, da⟩ := w.tup u
    exact ⟨a, ws, rfl, .inr sH, fun l hl => k _ _ _ (.nw hl da)⟩
def boolsD (bs : List Bool) : List PyData := bs.map PyData.bool
theorem bools_vals {K : PySem.W.Frag} {B : Hp} : ∀ {ns : List Bool} {vs : List V}, DpAll K B vs (boolsD ns) → vs = ns.map V.bl
  | [], _, .nil => rfl
  | n :: ns, _, .cons (.bl _) t => congrArg (V.bl n :: ·) (bools_vals t)
inductive SAll : List PyData → Rv → Prop
  | mk (bs : List Bool) : SAll [.list (boolsD bs)] (.d (.bool (bs.all id)))
theorem oN_all : OpN (fun X => rAll X.K) SAll := fun X B H vs ds z Q s u vx k => by
  cases s with
  | mk bs =>
    obtain ⟨v, rfl, w⟩ := vwa1 vx
    obtain ⟨a, ws, rfl, sH, da⟩ := w.lst u
    rw [bools_vals da] at sH
    exact ⟨a, bs, rfl, sH, k _ B H (.sc (.bl _))⟩
inductive SAny : List PyData → Rv → Prop
  | mk (bs : List Bool) : SAny [.list (boolsD bs)] (.d (.bool (bs.any id)))
theorem oN_any : OpN (fun X => rAny X.K) SAny := fun X B H vs ds z Q s u vx k => by
  cases s with
  | mk bs =>
    obtain ⟨v, rfl, w⟩ := vwa1 vx
    obtain ⟨a, ws, rfl, sH, da⟩ := w.lst u
    rw [bools_vals da] at sH
    exact ⟨a, bs, rfl, sH, k _ B H (.sc (.bl _))⟩
inductive SSum : List PyData → Rv → Prop
  | mk (ns : List Int) : SSum [.list (intsD ns)] (.d (.int ns.sum))
theorem oN_sum : OpN (fun X => rSum X.K) SSum := fun X B H vs ds z Q s u vx k => by
  cases s with
  | mk ns =>
    obtain ⟨v, rfl, w⟩ := vwa1 vx
    obtain ⟨a, ws, rfl, sH, da⟩ := w.lst u
    rw [ints_vals da] at sH
    exact ⟨a, ns, rfl, sH, k _ B H (.sc (.int _))⟩
inductive SMin2 (mx : Bool) : List PyData → Rv → Prop
  | mk (i j : Int) : SMin2 mx [.int i, .int j] (.d (.int (if mx then (if j > i then j else i) else (if j < i then j else i))))
def rMin2A : List V → Hp → VK → Prop := fun xs H Q => ∃ i j, xs = [.int i, .int j] ∧ Q (.int (if j < i then j else i)) H
def rMax2A : List V → Hp → VK → Prop := fun xs H Q => ∃ i j, xs = [.int i, .int j] ∧ Q (.int (if j > i then j else i)) H
theorem oN_min2 : OpN (fun _ => rMin2A) (SMin2 false) := fun X B H vs ds z Q s u vx k => by
  cases s with
  | mk i j =>
    obtain ⟨v, w, rfl, h1, h2⟩ := vwa2 vx
    rw [h1.int, h2.int]
    exact ⟨i, j, rfl, k _ B H (.sc (.int _))⟩
theorem oN_max2 : OpN (fun _ => rMax2A) (SMin2 true) := fun X B H vs ds z Q s u vx k => by
  cases s with
  | mk i j =>
    obtain ⟨v, w, rfl, h1, h2⟩ := vwa2 vx
    rw [h1.int, h2.int]
    exact ⟨i, j, rfl, k _ B H (.sc (.int _))⟩
/-! ### repr -/
inductive SRep : List PyData → Rv → Prop
  | mk (d : PyData) (h1 : d.showable = true) (h2 : d.shown.length ≤ sizeLine) (h3 : d.depth ≤ 60) : SRep [d] (.d (.str d.shown))
end Bs
set_option maxHeartbeats 2000000
namespace Bs
open PySem PySem.Spec PyProof.Rows L2

/-! ### what is walked -/
/-- J yields the data ds, from (B1, H1) on -/
structure Yld (K : PySem.W.Frag) (B1 : Hp) (J : It) (ds : List PyData) : Prop where
  turn : ∀ (i : Nat) (d : PyData) (B' H' : Hp), Up B1 B' → Up B' H' → ds[i]? = some d → J.go i H' ∧ ∀ x H'', J.yld i H' x H'' → ∃ B'', Mk K B' H' (.d d) x B'' H''
  stop : ∀ (B' H' : Hp), Up B1 B' → Up B' H' → J.stop ds.length H'
/-- what a walked expression gives -/
def WI (X : Cx) (Y : WY) (wi : TI) (ρ : Rho) (P : List PyData → Rho → Prop) : Prop :=
  ∀ (σ : L2.St) (H B : Hp) (R : It → Hp → Prop) (Wx : WX), Takes X Wx → Rel X.K B ρ σ H → (∀ ds J B1 ρ1 H1, Go B ρ H B1 ρ1 H1 → Rel X.K B1 ρ1 σ H1 → Yld X.K B1 J ds → P ds ρ1 → R J H1) → Xw X Y Wx σ B ρ H → wi σ H R
section
variable {X : Cx} {Y : WY} {ρ : Rho} {P : List PyData → Rho → Prop} {a b e : Expr} {es : List Expr}
theorem wi_list (h : WE X Y a ρ fun r ρ1 => r.nob ∧ ∃ ds, r.dt = .list ds ∧ P ds ρ1) : WI X Y (iList X.K (sE X a)) ρ P := fun σ H B R Wx tk rl q z => h.run tk rl (fun v r B1 ρ1 H1 g1 rl1 vo hk => by
  obtain ⟨nb, ds, ed, hP⟩ := hk
  obtain ⟨B2, g2, rl2, hdp, _, _⟩ := VOk.freeze (fun i ds e => by rw [e] at nb; exact nb) g1 rl1 vo
  rw [ed] at hdp
  cases hdp with
  | @lst l vs _ s da =>
    refine ⟨l, rfl, ⟨vs, up_l rl2.up s⟩, q ds _ B2 ρ1 H1 g2 rl2 ⟨fun i d B' H' u1 u2 hd => ?_, fun B' H' u1 u2 => ⟨vs, up_l u2 (up_l u1 s), Nat.le_of_eq (DpAll.len da)⟩⟩ hP⟩
    obtain ⟨v, hv, dv⟩ := DpAll.get da hd
    refine ⟨⟨vs, v, up_l u2 (up_l u1 s), hv⟩, fun x H'' y => ⟨B', ?_⟩⟩
    obtain ⟨rfl, y⟩ := y
    have := (y vs (up_l u2 (up_l u1 s))).symm.trans hv
    cases this
    exact .sc (Dp.up u1 dv)) z
theorem wi_tup (h : WE X Y a ρ fun r ρ1 => r.nob ∧ ∃ ds, r.dt = .tuple ds ∧ P ds ρ1) : WI X Y (iTup X.K (sE X a)) ρ P := fun σ H B R Wx tk rl q z => h.run tk rl (fun v r B1 ρ1 H1 g1 rl1 vo hk => by
  obtain ⟨nb, ds, ed, hP⟩ := hk
  obtain ⟨B2, g2, rl2, hdp, _, _⟩ := VOk.freeze (fun i ds e => by rw [e] at nb; exact nb) g1 rl1 vo
  rw [ed] at hdp
  cases hdp with
  | @tup l vs _ s da =>
    refine ⟨l, rfl, ⟨vs, up_t rl2.up s⟩, q ds _ B2 ρ1 H1 g2 rl2 ⟨fun i d B' H' u1 u2 hd => ?_, fun B' H' u1 u2 => ⟨vs, up_t u2 (up_t u1 s), Nat.le_of_eq (DpAll.len da)⟩⟩ hP⟩
    obtain ⟨v, hv, dv⟩ := DpAll.get da hd
    refine ⟨⟨vs, v, up_t u2 (up_t u1 s), hv⟩, fun x H'' y => ⟨B', ?_⟩⟩
    obtain ⟨rfl, y⟩ := y
    have := (y vs (up_t u2 (up_t u1 s))).symm.trans hv
    cases this
    exact .sc (Dp.up u1 dv)) z
/-- the ints lo, lo + 1, .. -/
def rngD (lo : Int) (n : Nat) : List PyData := (List.range n).map fun (i : Nat) => PyData.int (lo + (i : Int))
theorem rngD_len (lo : Int) (n : Nat) : (rngD lo n).length = n := by unfold rngD; rw [List.length_map, List.length_range]
theorem rngD_get {lo : Int} {n i : Nat} {d : PyData} (h : (rngD lo n)[i]? = some d) : i < n ∧ d = .int (lo + (i : Int)) := by
  have hi : i < n := by have := (List.getElem?_eq_some_iff.mp h).1; rw [rngD_len] at this; exact this
  unfold rngD at h
  rw [List.getElem?_map, List.getElem?_range hi] at h
  exact ⟨hi, (Option.some.inj h).symm⟩
theorem yld_rng {K : PySem.W.Frag} {B1 : Hp} (lo : Int) (n : Nat) : Yld K B1 (Itr lo n) (rngD lo n) := by
  refine ⟨fun i d B' H' u1 u2 hd => ?_, fun B' H' u1 u2 => by show n ≤ _; rw [rngD_len]; exact Nat.le_refl _⟩
  obtain ⟨hi, rfl⟩ := rngD_get hd
  refine ⟨hi, fun x H'' y => ⟨B', ?_⟩⟩
  obtain ⟨rfl, rfl⟩ := y
  exact .sc (.int _)
theorem wi_rng1 (h : WA X Y [a] ρ fun rs ρ1 => ∃ j : Int, rs = [.d (.int j)] ∧ j.natAbs < 1000000 ∧ P (rngD 0 j.toNat) ρ1) : WI X Y (iRng1 (sA X [a])) ρ P := fun σ H B R Wx tk rl q z => h σ H B _ Wx tk rl (fun vs rs B1 ρ1 H1 g1 rl1 vo _ hk => by
  obtain ⟨j, rfl, hj, hP⟩ := hk
  cases vo with
  | @cons v _ _ _ xo t =>
    cases t
    have xo : Dp X.K B1 v (.int j) := xo
    cases xo
    exact ⟨j, rfl, by omega, by omega, q _ _ B1 ρ1 H1 g1 rl1 (yld_rng 0 j.toNat) hP⟩) z
theorem wi_rng2 (h : WA X Y [a, b] ρ fun rs ρ1 => ∃ l j : Int, rs = [.d (.int l), .d (.int j)] ∧ l.natAbs < 1000000 ∧ j.natAbs < 1000000 ∧ P (rngD l (j - l).toNat) ρ1) : WI X Y (iRng2 (sA X [a, b])) ρ P := fun σ H B R Wx tk rl q z => h σ H B _ Wx tk rl (fun vs rs B1 ρ1 H1 g1 rl1 vo _ hk => by
  obtain ⟨l, j, rfl, hl, hj, hP⟩ := hk
  cases vo with
  | @cons v _ _ _ xo t =>
    cases t with
    | @cons w _ _ _ xo2 t =>
      cases t
      have xo : Dp X.K B1 v (.int l) := xo
      have xo2 : Dp X.K B1 w (.int j) := xo2
      cases xo
      cases xo2
      exact ⟨l, j, rfl, by omega, q _ _ B1 ρ1 H1 g1 rl1 (yld_rng l (j - l).toNat) hP⟩) z
/-- pairs of two lists, two tuples -/
def zipD (xs ys : List PyData) : List PyData := List.zipWith (fun x y => PyData.tuple [x, y]) xs ys
theorem wi_zip (h : WA X Y [a, b] ρ fun rs ρ1 => (∀ r ∈ rs, r.nob) ∧ ∃ xs ys, (rs.map Rv.dt = [.list xs, .list ys] ∨ rs.map Rv.dt = [.tuple xs, .tuple ys]) ∧ P (zipD xs ys) ρ1) : WI X Y (RZ.iZipA X.K (sA X [a, b])) ρ P := fun σ H B R Wx tk rl q z => h σ H B _ Wx tk rl (fun vs rs B1 ρ1 H1 g1 rl1 vo _ hk => by
  obtain ⟨nb, xs, ys, ed, hP⟩ := hk
  obtain ⟨B2, g2, rl2, da, _⟩ := vo.freeze nb g1 rl1
  have gz : ∀ {i : Nat} {d : PyData}, (zipD xs ys)[i]? = some d → ∃ x y, xs[i]? = some x ∧ ys[i]? = some y ∧ d = .tuple [x, y] := fun {i d} hd => by
    unfold zipD at hd
    rw [List.getElem?_zipWith] at hd
    cases e1 : xs[i]? with
    | none => rw [e1] at hd; cases hd
    | some x =>
      cases e2 : ys[i]? with
      | none => rw [e1, e2] at hd; cases hd
      | some y => rw [e1, e2] at hd; exact ⟨x, y, rfl, rfl, (Option.some.inj hd).symm⟩
  have lz : xs.length ≤ (zipD xs ys).length ∨ ys.length ≤ (zipD xs ys).length := by
    unfold zipD
    rw [List.length_zipWith]
    omega
  rcases ed with ed | ed
  · rw [ed] at da
    cases da with
    | @cons v vs _ _ d1 da =>
      cases da with
      | @cons w ws _ _ d2 da =>
        cases da
        cases d1 with
        | @lst a' us _ s1 a1 =>
          cases d2 with
          | @lst b' us2 _ s2 a2 =>
            refine ⟨a', b', us, us2, rfl, .inl ⟨up_l rl2.up s1, up_l rl2.up s2, q _ _ B2 ρ1 H1 g2 rl2 ⟨fun i d B' H' u1 u2 hd => ?_, fun B' H' u1 u2 => ⟨us, us2, up_l u2 (up_l u1 s1), up_l u2 (up_l u1 s2), by rw [DpAll.len a1, DpAll.len a2]; exact lz⟩⟩ hP⟩⟩
            obtain ⟨x, y, hx, hy, rfl⟩ := gz hd
            obtain ⟨v1, hv1, dv1⟩ := DpAll.get a1 hx
            obtain ⟨v2, hv2, dv2⟩ := DpAll.get a2 hy
            refine ⟨⟨us, us2, v1, v2, up_l u2 (up_l u1 s1), up_l u2 (up_l u1 s2), hv1, hv2⟩, fun x' H'' yy => ?_⟩
            obtain ⟨T, x1, x2, rfl, hT, rfl, f1, f2⟩ := yy
            have e1 := (f1 us (up_l u2 (up_l u1 s1))).symm.trans hv1
            have e2 := (f2 us2 (up_l u2 (up_l u1 s2))).symm.trans hv2
            cases e1; cases e2
            have nb' : B' T = none := none_up u2 hT
            exact ⟨_, .ld hT (.tup (.of upd_same) (.cons (Dp.up (Up.new nb') (Dp.up u1 dv1)) (.cons (Dp.up (Up.new nb') (Dp.up u1 dv2)) .nil)))⟩
  · rw [ed] at da
    cases da with
    | @cons v vs _ _ d1 da =>
      cases da with
      | @cons w ws _ _ d2 da =>
        cases da
        cases d1 with
        | @tup a' us _ s1 a1 =>
          cases d2 with
          | @tup b' us2 _ s2 a2 =>
            refine ⟨a', b', us, us2, rfl, .inr ⟨up_t rl2.up s1, up_t rl2.up s2, q _ _ B2 ρ1 H1 g2 rl2 ⟨fun i d B' H' u1 u2 hd => ?_, fun B' H' u1 u2 => ⟨us, us2, up_t u2 (up_t u1 s1), up_t u2 (up_t u1 s2), by rw [DpAll.len a1, DpAll.len a2]; exact lz⟩⟩ hP⟩⟩
            obtain ⟨x, y, hx, hy, rfl⟩ := gz hd
            obtain ⟨v1, hv1, dv1⟩ := DpAll.get a1 hx
            obtain ⟨v2, hv2, dv2⟩ := DpAll.get a2 hy
            refine ⟨⟨us, us2, v1, v2, up_t u2 (up_t u1 s1), up_t u2 (up_t u1 s2), hv1, hv2⟩, fun x' H'' yy => ?_⟩
            obtain ⟨T, x1, x2, rfl, hT, rfl, f1, f2⟩ := yy
            have e1 := (f1 us (up_t u2 (up_t u1 s1))).symm.trans hv1
            have e2 := (f2 us2 (up_t u2 (up_t u1 s2))).symm.trans hv2
            cases e1; cases e2
            have nb' : B' T = none := none_up u2 hT
            exact ⟨_, .ld hT (.tup (.of upd_same) (.cons (Dp.up (Up.new nb') (Dp.up u1 dv1)) (.cons (Dp.up (Up.new nb') (Dp.up u1 dv2)) .nil)))⟩) z
end
/-! ### targets, told where they store -/
def TgI (is : List Nat) (g : L2.Cx → TG) (S : PyData → Rho → Rho → Prop) : Prop := ∀ (X : Cx) (B H : Hp) (ρ ρ' : Rho) (σ : L2.St) (v : V) (d : PyData) (Q : L2.St → Hp → Prop), Rel X.K B ρ σ H → Dp X.K B v d → S d ρ ρ' →
  (∀ σ', σ'.length = σ.length → (∀ j, j ∉ is → σ'[j]? = σ[j]?) → Rel X.K B ρ' σ' H → (∀ p, p ∈ owns ρ' → p ∈ owns ρ) → Q σ' H) → g X v σ H Q
theorem tgi_name (i : Nat) : TgI [i] (fun _ => gName i) (tgN i) := fun X B H ρ ρ' σ v d Q R h e q => by
  subst e
  exact q _ (List.length_set) (fun j hj => List.getElem?_set_ne fun z => hj (by rw [z]; exact List.mem_cons_self)) (R.setD h) fun p hp => owns_setD nod hp
theorem gsN_okI {K : PySem.W.Frag} {B H : Hp} : ∀ (is : List Nat) (vs : List V) (ds : List PyData) (ρ : Rho) (σ : L2.St) (Q : L2.St → Hp → Prop), ds.length = is.length → DpAll K B vs ds → Rel K B ρ σ H →
    (∀ σ', σ'.length = σ.length → (∀ j, j ∉ is → σ'[j]? = σ[j]?) → Rel K B (setL ρ is ds) σ' H → (∀ p, p ∈ owns (setL ρ is ds) → p ∈ owns ρ) → Q σ' H) → gsN is vs σ H Q
  | [], vs, [], ρ, σ, Q, _, a, R, q => by
    cases a
    exact ⟨rfl, q σ rfl (fun _ _ => rfl) R fun _ h => h⟩
  | i :: is, vs, d :: ds, ρ, σ, Q, hl, a, R, q => by
    cases a with
    | @cons v vs _ _ h t =>
      refine ⟨v, vs, rfl, ?_⟩
      exact gsN_okI is vs ds (ρ.set i (.dat d)) (σ.set i (some v)) Q (Nat.succ.inj hl) t (R.setD h) fun σ' l f R' o => q σ' (l.trans List.length_set)
        (fun j hj => (f j fun z => hj (List.mem_cons_of_mem _ z)).trans (List.getElem?_set_ne fun z => hj (by rw [z]; exact List.mem_cons_self))) R' fun p hp => owns_setD nod (o p hp)
  | [], _, _ :: _, _, _, _, hl, _, _, _ => nomatch hl
  | _ :: _, _, [], _, _, _, hl, _, _, _ => nomatch hl
theorem tgi_tup (is : List Nat) : TgI is (fun X => gTup X.K is.length (gsN is)) (tgT is) := fun X B H ρ ρ' σ v d Q R h e q => by
  obtain ⟨ds, rfl, hl, rfl⟩ := e
  cases h with
  | @tup a vs _ s da => exact ⟨a, vs, rfl, up_t R.up s, (DpAll.len da).trans hl, gsN_okI is vs ds ρ σ Q hl da R q⟩
/-- the block's own slots forgotten -/
def wipeR (ρ : Rho) : List Nat → Rho
  | [] => ρ
  | v :: vs => (wipeR ρ vs).set v .any
theorem wipeR_len (ρ : Rho) : ∀ vs, (wipeR ρ vs).length = ρ.length
  | [] => rfl
  | v :: vs => by unfold wipeR; rw [List.length_set, wipeR_len ρ vs]
theorem wipeR_get {ρ : Rho} {i : Nat} {s : Sl} : ∀ {vs : List Nat}, (wipeR ρ vs)[i]? = some s → s = .any ∨ (i ∉ vs ∧ ρ[i]? = some s)
  | [], h => .inr ⟨by simp, h⟩
  | v :: vs, h => by
    unfold wipeR at h
    by_cases hv : v = i
    · subst hv
      have hl : v < (wipeR ρ vs).length := by have := (List.getElem?_eq_some_iff.mp h).1; rw [List.length_set] at this; exact this
      rw [List.getElem?_set_self hl] at h
      exact .inl (Option.some.inj h).symm
    · rw [List.getElem?_set_ne hv] at h
      rcases wipeR_get h with e | ⟨h1, h2⟩
      · exact .inl e
      · exact .inr ⟨fun z => (List.mem_cons.mp z).elim (fun e => hv e.symm) h1, h2⟩
theorem wipe_get {σ : L2.St} {i : Nat} : ∀ {vs : List Nat}, i ∉ vs → (wipe σ vs)[i]? = σ[i]?
  | [], _ => rfl
  | v :: vs, h => by
    unfold wipe
    rw [List.getElem?_set_ne (fun e => h (by rw [e]; exact List.mem_cons_self))]
    exact wipe_get fun z => h (List.mem_cons_of_mem _ z)
theorem wipe_in {σ : L2.St} {i : Nat} : ∀ {vs : List Nat}, i ∈ vs → i < σ.length → (wipe σ vs)[i]? = some none
  | v :: vs, h, hl => by
    unfold wipe
    by_cases e : v = i
    · subst e
      rw [List.getElem?_set_self (by rw [wipe_length]; exact hl)]
    · rw [List.getElem?_set_ne e]
      exact wipe_in ((List.mem_cons.mp h).resolve_left fun z => e z.symm) hl
/-- states that are alike but for the block's slots -/
theorem wipe_eq {σ σ' : L2.St} {vs : List Nat} (hl : σ'.length = σ.length) (h : ∀ j, j ∉ vs → σ'[j]? = σ[j]?) : wipe σ' vs = wipe σ vs := by
  refine List.ext_getElem? fun i => ?_
  by_cases hi : i ∈ vs
  · by_cases hlt : i < σ.length
    · rw [wipe_in hi hlt, wipe_in hi (by rw [hl]; exact hlt)]
    · rw [List.getElem?_eq_none (by rw [wipe_length, hl]; omega), List.getElem?_eq_none (by rw [wipe_length]; omega)]
  · rw [wipe_get hi, wipe_get hi, h i hi]
theorem Rel.wipe {K : PySem.W.Frag} {B H : Hp} {ρ : Rho} {σ σ' : L2.St} {vs : List Nat} (R : Rel K B ρ σ H) (hl : σ'.length = σ.length) (hg : ∀ j, j ∉ vs → σ'[j]? = σ[j]?) : Rel K B (wipeR ρ vs) σ' H where
  up := R.up
  len := by rw [wipeR_len, hl]; exact R.len
  sl := fun i s o e1 e2 => by
    rcases wipeR_get e1 with rfl | ⟨h1, h2⟩
    · trivial
    · rw [hg i h1] at e2
      exact R.sl i s o h2 e2
  one := fun i j p ds es e1 e2 => by
    rcases wipeR_get e1 with z | ⟨_, h1⟩
    · cases z
    · rcases wipeR_get e2 with z | ⟨_, h2⟩
      · cases z
      · exact R.one i j p ds es h1 h2
theorem owns_wipe {ρ : Rho} {vs : List Nat} {p : Addr} (h : p ∈ owns (wipeR ρ vs)) : p ∈ owns ρ := by
  obtain ⟨i, ds, e⟩ := mem_owns.mp h
  rcases wipeR_get e with z | ⟨_, h2⟩
  · cases z
  · exact mem_owns.mpr ⟨i, ds, h2⟩
theorem Go.wipe {B0 H0 B H : Hp} {ρ0 ρ : Rho} {vs : List Nat} (g : Go B0 ρ0 H0 B ρ H) : Go B0 ρ0 H0 B (wipeR ρ vs) H := ⟨g.gr, g.fr, g.fm, fun p h => g.ow p (owns_wipe h), g.th⟩

theorem Rel.other {K : PySem.W.Frag} {B H : Hp} {ρ : Rho} {σ : L2.St} {p : Addr} {o : HO} (R : Rel K B ρ σ H) (hb : B p = none) (no : p ∉ owns ρ) : Rel K B ρ σ (upd H p o) where
  up := R.up.mut hb
  len := R.len
  sl := fun i s v e1 e2 => by
    have x := R.sl i s v e1 e2
    cases s with
    | any => trivial
    | exn a d fs => exact x
    | dat d => exact x
    | own q ds =>
      obtain ⟨e, hq, vs, hv, a⟩ := x
      exact ⟨e, hq, vs, (upd_ne fun z => no (by rw [← z]; exact mem_owns.mpr ⟨i, ds, e1⟩)).trans hv, a⟩
  one := R.one

/-! ### comprehensions -/
abbrev yNo : WY := fun _ _ _ => False
theorem takesNo {X : Cx} : Takes X (fun _ _ _ _ => False) := fun _ _ ⟨_, _, _, _, _, _, _, _, _, _, _, _, _, _, _, _, w⟩ => w.elim
/-- an expression of a block, whatever the block's frame -/
def sEb (X : Cx) (sc : Scope) (e : Expr) : TE := fun σ H Q => ∀ s0 H0 C cl fp, sE (X.blk s0 H0 sc (compEnvC sc cl C X.env) fp) e σ H Q
def sTb (X : Cx) (sc : Scope) (e : Expr) : TT := fun σ H Q => ∀ s0 H0 C cl fp, sT (X.blk s0 H0 sc (compEnvC sc cl C X.env) fp) e σ H Q
def WEb (X : Cx) (sc : Scope) (e : Expr) (ρ : Rho) (R : Rv → Rho → Prop) : Prop := ∀ s0 H0 C cl fp, WE (X.blk s0 H0 sc (compEnvC sc cl C X.env) fp) yNo e ρ R
def WTb (X : Cx) (sc : Scope) (e : Expr) (ρ : Rho) (R : Bool → Rho → Prop) : Prop := ∀ s0 H0 C cl fp, WT (X.blk s0 H0 sc (compEnvC sc cl C X.env) fp) yNo e ρ R
section
variable {X : Cx} {Y : WY} {ρ : Rho} {R : Rv → Rho → Prop} {elt tg iter c : Expr} {sc : Scope} {pos : Pos} {own : List (Str × Nat)}
/-- the turns of a comprehension -/
theorem lc_go {wi : TI} {g : L2.Cx → TG} {S : PyData → Rho → Rho → Prop} {is vs : List Nat} {tt : TT} {te : TE} (hS : TgI is g S) (hsub : ∀ i ∈ is, i ∈ vs) {σ : L2.St} {H : Hp} {Q : VK} {Wx : WX} {B : Hp}
    (tk : Takes X Wx) (rl : Rel X.K B ρ σ H) (q : Vw' X R Q σ B ρ H) (z : Xw X Y Wx σ B ρ H)
    (h : WI X Y wi ρ fun ds ρ1 => ∃ I : Nat → List PyData → Rho → Prop, ds.length < 100000 ∧ I 0 [] (wipeR ρ1 vs) ∧ (∀ i d acc ρ2, ds[i]? = some d → I i acc ρ2 → ∃ ρ3, S d ρ2 ρ3 ∧
      ∀ (σ3 : L2.St) (B3 H3 : Hp) (Q2 : Bool → Hp → Prop), Rel X.K B3 ρ3 σ3 H3 → (∀ b B4 ρ4 H4, Go B3 ρ3 H3 B4 ρ4 H4 → Rel X.K B4 ρ4 σ3 H4 → (b = false → I (i + 1) acc (wipeR ρ4 vs)) → (b = true → ∀ Q3 : VK, (∀ v r B5 ρ5 H5, Go B4 ρ4 H4 B5 ρ5 H5 → Rel X.K B5 ρ5 σ3 H5 → VOk X.K H4 B5 ρ5 H5 v r → r.nob → I (i + 1) (acc ++ [r.dt]) (wipeR ρ5 vs) → Q3 v H5) → te σ3 H4 Q3) → Q2 b H4) → tt σ3 H3 Q2) ∧
      (∀ acc ρ2, I ds.length acc ρ2 → acc.length ≤ ds.length → R (.n acc) ρ2)) : tLc wi (g X) tt te vs σ H Q := by
  refine h σ H B _ Wx tk rl (fun ds J B1 ρ1 H1 g1 rl1 yl hk D hD => ?_) z
  obtain ⟨I, hlen, i0, hstep, hend⟩ := hk
  have hDB : B1 D = none := none_up rl1.up hD
  refine ⟨fun i m H' => m = ds.length - i ∧ i ≤ ds.length ∧ ∃ B' ρ' acc accV, Go B1 (.own D [] :: wipeR ρ1 vs) (upd H1 D (.lst [])) B' ρ' H' ∧ Rel X.K B' ρ' (L2.wipe σ vs) H' ∧ H' D = some (.lst accV) ∧ B' D = none ∧ D ∉ owns ρ' ∧ DpAll X.K B' accV acc ∧ acc.length ≤ i ∧ I i acc ρ' ∧ ρ' = wipeR ρ' vs, ?_, ?_⟩
  · refine ⟨ds.length, by simp, Nat.zero_le _, B1, wipeR ρ1 vs, [], [], ⟨Up.rfl' _, fun _ _ h _ => h, fun _ _ _ h => h, fun p hp => .inl (List.mem_cons_of_mem _ hp), fun _ h => h⟩, (rl1.wipe (σ' := L2.wipe σ vs) (wipe_length σ vs) fun j hj => wipe_get hj).put hD, upd_same, hDB, fun w => ?_, .nil, Nat.le_refl _, i0, ?_⟩
    · obtain ⟨_, ws, q⟩ := rl1.own_there (owns_wipe w)
      rw [hD] at q; cases q
    · refine List.ext_getElem? fun i => ?_
      have len2 : (wipeR (wipeR ρ1 vs) vs).length = (wipeR ρ1 vs).length := wipeR_len _ _
      cases e : (wipeR (wipeR ρ1 vs) vs)[i]? with
      | none => rw [List.getElem?_eq_none_iff] at e ⊢; omega
      | some s =>
        rcases wipeR_get e with rfl | ⟨_, h2⟩
        · have hi : i < (wipeR ρ1 vs).length := by have := (List.getElem?_eq_some_iff.mp e).1; omega
          cases e2 : (wipeR ρ1 vs)[i]? with
          | none => rw [List.getElem?_eq_none_iff] at e2; omega
          | some t =>
            by_cases hv : i ∈ vs
            · rcases wipeR_get e2 with rfl | ⟨h3, _⟩
              · rfl
              · exact absurd hv h3
            · have : ∀ (us : List Nat) (r : Rho), i ∉ us → (wipeR r us)[i]? = r[i]? := fun us => by
                induction us with
                | nil => intro r _; rfl
                | cons u us ih =>
                  intro r hu
                  unfold wipeR
                  rw [List.getElem?_set_ne (fun e => hu (by rw [e]; exact List.mem_cons_self))]
                  exact ih r fun w => hu (List.mem_cons_of_mem _ w)
              rw [this vs _ hv, e2] at e
              exact e
        · exact h2
  · rintro i m H' ⟨rfl, hi, B', ρ', acc, accV, g', rl', hDH, hDB', hDo, da, hal, iv, ew⟩
    have u1 : Up B1 B' := g'.gr
    by_cases hlt : i < ds.length
    · obtain ⟨hgo, hy⟩ := yl.turn i ds[i] B' H' u1 rl'.up (List.getElem?_eq_getElem hlt)
      refine .inr ⟨hgo, fun H'' => ∃ B' ρ' acc accV, Go B1 (.own D [] :: wipeR ρ1 vs) (upd H1 D (.lst [])) B' ρ' H'' ∧ Rel X.K B' ρ' (L2.wipe σ vs) H'' ∧ H'' D = some (.lst accV) ∧ B' D = none ∧ D ∉ owns ρ' ∧ DpAll X.K B' accV acc ∧ acc.length ≤ i + 1 ∧ I (i + 1) acc ρ' ∧ ρ' = wipeR ρ' vs, fun H'' w => ⟨ds.length - (i + 1), by omega, rfl, hlt, w⟩, fun x H'' yy => ?_⟩
      obtain ⟨B2, mk⟩ := hy x H'' yy
      obtain ⟨g2, rl2, vo2⟩ := mk.go g' rl'
      obtain ⟨g2', _, _⟩ := mk.go (Go.refl B' ρ' H') rl'
      have hnH : H' D ≠ none := by rw [hDH]; exact fun w => nomatch w
      have hDH2 : H'' D = some (.lst accV) := g2'.fm D _ hDo hDH
      have hDB2 : B2 D = none := g2'.fr D hDo hDB' hnH
      obtain ⟨ρ3, hs3, hbody⟩ := hstep i ds[i] acc ρ' (List.getElem?_eq_getElem hlt) iv
      refine hS X B2 H'' ρ' ρ3 (L2.wipe σ vs) x ds[i] _ rl2 vo2 hs3 fun σ3 l3 f3 rl3 o3 => ?_
      have wq : L2.wipe σ3 vs = L2.wipe σ vs := by
        refine wipe_eq (l3.trans (wipe_length σ vs)) fun j hj => ?_
        rw [f3 j (fun w => hj (hsub j w)), wipe_get hj]
      refine ⟨wq, ?_⟩
      have g3 : Go B1 (.own D [] :: wipeR ρ1 vs) (upd H1 D (.lst [])) B2 ρ3 H'' := ⟨g2.gr, g2.fr, g2.fm, fun p hp => g2.ow p (o3 p hp), g2.th⟩
      have hDo3 : D ∉ owns ρ3 := fun w => hDo (o3 D w)
      have toW : ∀ {B5 : Hp} {ρ5 : Rho} {H5 : Hp}, Rel X.K B5 ρ5 σ3 H5 → Rel X.K B5 (wipeR ρ5 vs) (L2.wipe σ vs) H5 := fun {B5 ρ5 H5} r5 => by
        refine r5.wipe (by rw [wipe_length, l3, wipe_length]) fun j hj => ?_
        rw [← wq, wipe_get hj]
      have idem : ∀ ρ5 : Rho, wipeR ρ5 vs = wipeR (wipeR ρ5 vs) vs := fun ρ5 => by
        have off : ∀ (us : List Nat) (r : Rho) (i : Nat), i ∉ us → (wipeR r us)[i]? = r[i]? := fun us => by
          induction us with
          | nil => intro r i _; rfl
          | cons u us ih =>
            intro r i hu
            unfold wipeR
            rw [List.getElem?_set_ne (fun e => hu (by rw [e]; exact List.mem_cons_self))]
            exact ih r i fun w => hu (List.mem_cons_of_mem _ w)
        refine List.ext_getElem? fun i => ?_
        by_cases hv : i ∈ vs
        · cases e2 : (wipeR ρ5 vs)[i]? with
          | none =>
            have : (wipeR (wipeR ρ5 vs) vs).length = (wipeR ρ5 vs).length := wipeR_len _ _
            rw [List.getElem?_eq_none_iff] at e2
            exact (List.getElem?_eq_none_iff.mpr (by omega)).symm
          | some t =>
            have hi2 : i < (wipeR (wipeR ρ5 vs) vs).length := by rw [wipeR_len]; exact (List.getElem?_eq_some_iff.mp e2).1
            have e3 := List.getElem?_eq_getElem hi2
            rcases wipeR_get e2 with rfl | ⟨h3, _⟩
            · rcases wipeR_get e3 with e4 | ⟨h4, _⟩
              · rw [e3, e4]
              · exact absurd hv h4
            · exact absurd hv h3
        · rw [off vs (wipeR ρ5 vs) i hv]
      refine hbody σ3 B2 H'' _ rl3 fun b B4 ρ4 H4 g4 rl4 hno hyes => ?_
      have hnH2 : H'' D ≠ none := by rw [hDH2]; exact fun w => nomatch w
      have hDH4 : H4 D = some (.lst accV) := g4.fm D _ hDo3 hDH2
      have hDB4 : B4 D = none := g4.fr D hDo3 hDB2 hnH2
      have hDo4 : D ∉ owns ρ4 := fun w => (g4.ow D w).elim hDo3 hnH2
      cases b with
      | false =>
        show ∃ B' ρ' acc accV, _
        exact ⟨B4, wipeR ρ4 vs, acc, accV, (g3.trans g4).wipe, toW rl4, hDH4, hDB4, fun w => hDo4 (owns_wipe w), DpAll.up ((g2'.gr).trans g4.gr) da, Nat.le_succ_of_le hal, hno rfl, idem ρ4⟩
      | true =>
        show te σ3 H4 _
        refine hyes rfl _ fun v r B5 ρ5 H5 g5 rl5 vo5 nb iv5 => ?_
        have hnH4 : H4 D ≠ none := by rw [hDH4]; exact fun w => nomatch w
        have hDH5 : H5 D = some (.lst accV) := g5.fm D _ hDo4 hDH4
        have hDB5 : B5 D = none := g5.fr D hDo4 hDB4 hnH4
        have hDo5 : D ∉ owns ρ5 := fun w => (g5.ow D w).elim hDo4 hnH4
        obtain ⟨B6, g6, rl6, dv, u6, hn6⟩ := VOk.freeze (fun i ds e => by rw [e] at nb; exact nb) g5 rl5 vo5
        have hDB6 : B6 D = none := by
          cases e6 : B6 D with
          | none => rfl
          | some o => exact absurd (hn6 D hDB5 (by rw [e6]; exact fun w => nomatch w)).1 hnH4
        have accLen : accV.length = acc.length := DpAll.len da
        have dacc : DpAll X.K B6 accV acc := DpAll.up (g2'.gr.trans (g4.gr.trans g6.gr)) da
        refine ⟨accV, hDH5, by rw [accLen]; exact Nat.lt_of_le_of_lt hal (Nat.lt_of_lt_of_le (Nat.lt_trans hlt hlen) (by decide)), ?_⟩
        have gg := (g3.trans g4).trans g6
        refine ⟨B6, wipeR ρ5 vs, acc ++ [r.dt], accV ++ [v], ⟨gg.gr, gg.fr, fun a o h1 h2 => ?_, fun p hp => gg.ow p (owns_wipe hp), fun a h => ?_⟩, ?_, upd_same, hDB6, fun w => hDo5 (owns_wipe w), DpAll.app dacc (DpAll.one dv), by rw [List.length_append, List.length_singleton]; omega, iv5, idem ρ5⟩
        · have ne : a ≠ D := fun w => h1 (by rw [w]; exact List.mem_cons_self)
          exact (upd_ne ne).trans (gg.fm a o h1 h2)
        · by_cases ea : a = D
          · rw [ea, upd_same]; exact fun w => nomatch w
          · rw [upd_ne ea]; exact gg.th a h
        · exact (toW rl6).other hDB6 fun w => hDo5 (owns_wipe w)
    · have e : i = ds.length := by omega
      subst e
      refine .inl ⟨yl.stop B' H' u1 rl'.up, ?_⟩
      have h0 : H D = none := by
        cases eh : H D with
        | none => rfl
        | some o => exact absurd hD (g1.th D (by rw [eh]; exact fun w => nomatch w))
      have g0 : Go B ρ H B1 (.own D [] :: wipeR ρ1 vs) (upd H1 D (.lst [])) := by
        have gp := (Go.wipe (vs := vs) g1).put (o := .lst []) hD
        exact ⟨gp.gr, gp.fr, gp.fm, fun p hp => (List.mem_cons.mp (show p ∈ D :: owns (wipeR ρ1 vs) from hp)).elim (fun w => .inr (by rw [w]; exact h0)) (gp.ow p), gp.th⟩
      have rlE : Rel X.K B' ρ' σ H' := by
        have w := rl'.wipe (vs := vs) (σ' := σ) (wipe_length σ vs).symm fun j hj => (wipe_get hj).symm
        rw [← ew] at w
        exact w
      exact q (.ref D) (.n acc) B' ρ' H' (g0.trans g') rlE ⟨D, accV, rfl, h0, hDB', hDo, hDH, da⟩ (hend acc ρ' iv hal)
end
end Bs
set_option maxHeartbeats 2000000
namespace Bs
open PySem PySem.Spec PyProof.Rows L2
section
variable {X : Cx} {Y : WY} {ρ : Rho} {D : Ed} {R : Rv → Rho → Prop} {elt tg iter c : Expr} {sc : Scope} {pos spos py : Pos} {own : List (Str × Nat)} {y : Str}
theorem WEb.go {Q : VK} {σ : L2.St} {B H : Hp} (h : WEb X sc elt ρ R) (rl : Rel X.K B ρ σ H) (q : Vw' X R Q σ B ρ H) : sEb X sc elt σ H Q := fun s0 H0 C cl fp =>
  h s0 H0 C cl fp σ H B Q (fun _ _ _ _ => False) takesNo rl q (fun _ _ _ _ _ _ _ _ _ _ _ _ z => z.elim)
theorem WTb.go {RT : Bool → Rho → Prop} {Q : Bool → Hp → Prop} {σ : L2.St} {B H : Hp} (h : WTb X sc c ρ RT) (rl : Rel X.K B ρ σ H) (q : ∀ b B' ρ' H', Go B ρ H B' ρ' H' → Rel X.K B' ρ' σ H' → RT b ρ' → Q b H') : sTb X sc c σ H Q := fun s0 H0 C cl fp =>
  h s0 H0 C cl fp σ H B Q (fun _ _ _ _ => False) takesNo rl q (fun _ _ _ _ _ _ _ _ _ _ _ _ z => z.elim)
/-- a turn: the item stored, (the test,) the element -/
def Turn0 (X : Cx) (sc : Scope) (elt : Expr) (vs : List Nat) (S : PyData → Rho → Rho → Prop) (I : Nat → List PyData → Rho → Prop) (i : Nat) (d : PyData) (acc : List PyData) (ρ2 : Rho) : Prop :=
  ∃ ρ3, S d ρ2 ρ3 ∧ WEb X sc elt ρ3 fun r ρ5 => r.nob ∧ I (i + 1) (acc ++ [r.dt]) (wipeR ρ5 vs)
def Turn1 (X : Cx) (sc : Scope) (c elt : Expr) (vs : List Nat) (S : PyData → Rho → Rho → Prop) (I : Nat → List PyData → Rho → Prop) (i : Nat) (d : PyData) (acc : List PyData) (ρ2 : Rho) : Prop :=
  ∃ ρ3, S d ρ2 ρ3 ∧ WTb X sc c ρ3 fun b ρ4 => (b = false → I (i + 1) acc (wipeR ρ4 vs)) ∧ (b = true → WEb X sc elt ρ4 fun r ρ5 => r.nob ∧ I (i + 1) (acc ++ [r.dt]) (wipeR ρ5 vs))
def LcI (X : Cx) (vs : List Nat) (T : (Nat → List PyData → Rho → Prop) → Nat → PyData → List PyData → Rho → Prop) (R : Rv → Rho → Prop) (ds : List PyData) (ρ1 : Rho) : Prop :=
  ∃ I : Nat → List PyData → Rho → Prop, ds.length < 100000 ∧ I 0 [] (wipeR ρ1 vs) ∧ (∀ i d acc ρ2, ds[i]? = some d → I i acc ρ2 → T I i d acc ρ2) ∧ (∀ acc ρ2, I ds.length acc ρ2 → acc.length ≤ ds.length → R (.n acc) ρ2)
theorem lc0 {wi : TI} {g : L2.Cx → TG} {S : PyData → Rho → Rho → Prop} {is vs : List Nat} (hS : TgI is g S) (hsub : ∀ i ∈ is, i ∈ vs) {σ : L2.St} {H : Hp} {Q : VK} {Wx : WX} {B : Hp}
    (tk : Takes X Wx) (rl : Rel X.K B ρ σ H) (q : Vw' X R Q σ B ρ H) (z : Xw X Y Wx σ B ρ H) (h : WI X Y wi ρ (LcI X vs (Turn0 X sc elt vs S) R)) : tLc wi (g X) tYes (sEb X sc elt) vs σ H Q := by
  refine lc_go hS hsub tk rl q z fun σ1 H1 B1 R1 Wx1 t1 rl1 k1 z1 => h σ1 H1 B1 R1 Wx1 t1 rl1 (fun ds J B2 ρ2 H2 g2 rl2 yl hk => k1 ds J B2 ρ2 H2 g2 rl2 yl ?_) z1
  obtain ⟨I, hl, i0, hst, hend⟩ := hk
  refine ⟨I, hl, i0, fun i d acc ρ2 hd iv => ?_, hend⟩
  obtain ⟨ρ3, hs3, he⟩ := hst i d acc ρ2 hd iv
  refine ⟨ρ3, hs3, fun σ3 B3 H3 Q2 rl3 k => k true B3 ρ3 H3 (Go.refl _ _ _) rl3 (fun w => nomatch w) fun _ Q3 k3 => ?_⟩
  exact he.go rl3 fun v r B5 ρ5 H5 g5 rl5 vo5 hr => k3 v r B5 ρ5 H5 g5 rl5 vo5 hr.1 hr.2
theorem lc1 {wi : TI} {g : L2.Cx → TG} {S : PyData → Rho → Rho → Prop} {is vs : List Nat} (hS : TgI is g S) (hsub : ∀ i ∈ is, i ∈ vs) {σ : L2.St} {H : Hp} {Q : VK} {Wx : WX} {B : Hp}
    (tk : Takes X Wx) (rl : Rel X.K B ρ σ H) (q : Vw' X R Q σ B ρ H) (z : Xw X Y Wx σ B ρ H) (h : WI X Y wi ρ (LcI X vs (Turn1 X sc c elt vs S) R)) : tLc wi (g X) (sTb X sc c) (sEb X sc elt) vs σ H Q := by
  refine lc_go hS hsub tk rl q z fun σ1 H1 B1 R1 Wx1 t1 rl1 k1 z1 => h σ1 H1 B1 R1 Wx1 t1 rl1 (fun ds J B2 ρ2 H2 g2 rl2 yl hk => k1 ds J B2 ρ2 H2 g2 rl2 yl ?_) z1
  obtain ⟨I, hl, i0, hst, hend⟩ := hk
  refine ⟨I, hl, i0, fun i d acc ρ2 hd iv => ?_, hend⟩
  obtain ⟨ρ3, hs3, hc⟩ := hst i d acc ρ2 hd iv
  refine ⟨ρ3, hs3, fun σ3 B3 H3 Q2 rl3 k => ?_⟩
  refine hc.go rl3 fun b B4 ρ4 H4 g4 rl4 hb => k b B4 ρ4 H4 g4 rl4 hb.1 fun e Q3 k3 => ?_
  exact (hb.2 e).go rl4 fun v r B5 ρ5 H5 g5 rl5 vo5 hr => k3 v r B5 ρ5 H5 g5 rl5 vo5 hr.1 hr.2
abbrev PGb (X : Cx) (sc : Scope) (tg : Expr) (g : TG) : Prop := ∀ (s : Shared) (H : Hp) (C : Addr) (cl : List (Str × Addr)) (fp : List Addr), PG (X.blk s H sc (compEnvC sc cl C X.env) fp) tg g
theorem peb {s : Shared} {H : Hp} {C : Addr} {cl : List (Str × Addr)} {fp : List Addr} : PE (X.blk s H sc (compEnvC sc cl C X.env) fp) elt (sEb X sc elt) := ⟨fun pins s' σ H' Q I h => h s H C cl fp pins s' I⟩
theorem ptb {s : Shared} {H : Hp} {C : Addr} {cl : List (Str × Addr)} {fp : List Addr} : PT (X.blk s H sc (compEnvC sc cl C X.env) fp) c (sTb X sc c) := ⟨fun pins s' σ H' Q I h => h s H C cl fp pins s' I⟩
/-- [elt for tg in iter] -/
theorem we_lc0 {wi : TI} {g : L2.Cx → TG} {S : PyData → Rho → Rho → Prop} {is : List Nat} (hS : TgI is g S) (hsub : ∀ i ∈ is, i ∈ own.map (·.2)) (hc : X.calm = true) (hN : X.N.Nodup) (hi : PI X tg iter wi) (ok : BlkOk X.N X.env.scope sc own) (hg : PGb X sc tg (g X))
    (hs : ∀ x, foldedSetIterable iter X.env x = pure x) (h : WI X Y wi ρ (LcI X (own.map (·.2)) (Turn0 X sc elt (own.map (·.2)) S) R)) : WE X Y (.ListComp elt [⟨tg, iter, [], 0⟩] sc pos) ρ R :=
  WE.of (pe_lc hc hN hi ok hg (fun _ _ _ _ _ => pts_nil) (fun _ _ _ _ _ => peb) hs) fun σ H B Q Wx tk rl q z => lc0 hS hsub tk rl q z h
theorem we_lc1 {wi : TI} {g : L2.Cx → TG} {S : PyData → Rho → Rho → Prop} {is : List Nat} (hS : TgI is g S) (hsub : ∀ i ∈ is, i ∈ own.map (·.2)) (hc : X.calm = true) (hN : X.N.Nodup) (hi : PI X tg iter wi) (ok : BlkOk X.N X.env.scope sc own) (hg : PGb X sc tg (g X))
    (hs : ∀ x, foldedSetIterable iter X.env x = pure x) (h : WI X Y wi ρ (LcI X (own.map (·.2)) (Turn1 X sc c elt (own.map (·.2)) S) R)) : WE X Y (.ListComp elt [⟨tg, iter, [c], 0⟩] sc pos) ρ R :=
  WE.of (pe_lc hc hN hi ok hg (fun _ _ _ _ _ => pts_one ptb) (fun _ _ _ _ _ => peb) hs) fun σ H B Q Wx tk rl q z => lc1 hS hsub tk rl q z h
/-- y = [..] on one line -/
theorem w1_lc0 (j : Nat) {wi : TI} {g : L2.Cx → TG} {S : PyData → Rho → Rho → Prop} {is : List Nat} (hS : TgI is g S) (hsub : ∀ i ∈ is, i ∈ own.map (·.2)) (hc : X.calm = true) (hN : X.N.Nodup) (hy : X.N[j]? = some y) (hyl : X.env.scope.names.lookup y = some .local)
    (hsw : swapsWith (.ListComp elt [⟨tg, iter, [], 0⟩] sc pos) (some (.Name y py)) spos.line X.env = pure true) (hi : PI X tg iter wi) (ok : BlkOk X.N X.env.scope sc own) (hg : PGb X sc tg (g X)) (hs : ∀ x, foldedSetIterable iter X.env x = pure x)
    (h : WI X Y wi ρ (LcI X (own.map (·.2)) (Turn0 X sc elt (own.map (·.2)) S) fun r ρ1 => putR ρ1 j D.nx r)) : W1 X Y (.Assign [.Name y py] (.ListComp elt [⟨tg, iter, [], 0⟩] sc pos) spos) ρ D :=
  W1.of (ps_setLc hc hN hy hyl hsw hi ok hg (fun _ _ _ _ _ => pts_nil) (fun _ _ _ _ _ => peb) hs) fun σ H B C Wx tk rl q z => lc0 hS hsub tk rl (R := fun r ρ1 => putR ρ1 j D.nx r) (fun v r B1 ρ1 H1 g1 rl1 vo hp => by
    obtain ⟨ρ2, g2, rl2, hd⟩ := hp.go g1 rl1 vo
    exact q.nx _ B1 ρ2 H1 (List.length_set) g2 rl2 hd) z h
theorem w1_lc1 (j : Nat) {wi : TI} {g : L2.Cx → TG} {S : PyData → Rho → Rho → Prop} {is : List Nat} (hS : TgI is g S) (hsub : ∀ i ∈ is, i ∈ own.map (·.2)) (hc : X.calm = true) (hN : X.N.Nodup) (hy : X.N[j]? = some y) (hyl : X.env.scope.names.lookup y = some .local)
    (hsw : swapsWith (.ListComp elt [⟨tg, iter, [c], 0⟩] sc pos) (some (.Name y py)) spos.line X.env = pure true) (hi : PI X tg iter wi) (ok : BlkOk X.N X.env.scope sc own) (hg : PGb X sc tg (g X)) (hs : ∀ x, foldedSetIterable iter X.env x = pure x)
    (h : WI X Y wi ρ (LcI X (own.map (·.2)) (Turn1 X sc c elt (own.map (·.2)) S) fun r ρ1 => putR ρ1 j D.nx r)) : W1 X Y (.Assign [.Name y py] (.ListComp elt [⟨tg, iter, [c], 0⟩] sc pos) spos) ρ D :=
  W1.of (ps_setLc hc hN hy hyl hsw hi ok hg (fun _ _ _ _ _ => pts_one ptb) (fun _ _ _ _ _ => peb) hs) fun σ H B C Wx tk rl q z => lc1 hS hsub tk rl (R := fun r ρ1 => putR ρ1 j D.nx r) (fun v r B1 ρ1 H1 g1 rl1 vo hp => by
    obtain ⟨ρ2, g2, rl2, hd⟩ := hp.go g1 rl1 vo
    exact q.nx _ B1 ρ2 H1 (List.length_set) g2 rl2 hd) z h
/-! ### pure ones: filter and map -/
/-- nothing changes but the block's slots -/
theorem lcI_map {vs : List Nat} {S : PyData → Rho → Rho → Prop} {ds : List PyData} {ρ1 : Rho} (f : PyData → PyData) (hl : ds.length < 100000)
    (h : ∀ d ∈ ds, ∃ ρ3, S d (wipeR ρ1 vs) ρ3 ∧ wipeR ρ3 vs = wipeR ρ1 vs ∧ WEb X sc elt ρ3 fun r ρ5 => r = .d (f d) ∧ ρ5 = ρ3) (k : R (.n (ds.map f)) (wipeR ρ1 vs)) : LcI X vs (Turn0 X sc elt vs S) R ds ρ1 := by
  refine ⟨fun i acc ρ => acc = (ds.take i).map f ∧ ρ = wipeR ρ1 vs, hl, ⟨rfl, rfl⟩, fun i d acc ρ2 hd ⟨e1, e2⟩ => ?_, fun acc ρ2 ⟨e1, e2⟩ _ => ?_⟩
  · subst e1 e2
    obtain ⟨ρ3, hs, hw, he⟩ := h d (List.mem_of_getElem? hd)
    refine ⟨ρ3, hs, fun s0 H0 C cl fp => (he s0 H0 C cl fp).imp fun r ρ5 ⟨er, e5⟩ => ?_⟩
    subst er e5
    refine ⟨trivial, ?_, hw⟩
    rw [List.take_add_one, hd, List.map_append]
    rfl
  · subst e1 e2
    rw [List.take_length]
    exact k
theorem lcI_filter {vs : List Nat} {S : PyData → Rho → Rho → Prop} {ds : List PyData} {ρ1 : Rho} (p : PyData → Bool) (f : PyData → PyData) (hl : ds.length < 100000)
    (h : ∀ d ∈ ds, ∃ ρ3, S d (wipeR ρ1 vs) ρ3 ∧ wipeR ρ3 vs = wipeR ρ1 vs ∧ WTb X sc c ρ3 fun b ρ4 => b = p d ∧ ρ4 = ρ3 ∧ (p d = true → WEb X sc elt ρ3 fun r ρ5 => r = .d (f d) ∧ ρ5 = ρ3)) (k : R (.n ((ds.filter p).map f)) (wipeR ρ1 vs)) : LcI X vs (Turn1 X sc c elt vs S) R ds ρ1 := by
  refine ⟨fun i acc ρ => acc = ((ds.take i).filter p).map f ∧ ρ = wipeR ρ1 vs, hl, ⟨rfl, rfl⟩, fun i d acc ρ2 hd ⟨e1, e2⟩ => ?_, fun acc ρ2 ⟨e1, e2⟩ _ => ?_⟩
  · subst e1 e2
    obtain ⟨ρ3, hs, hw, he⟩ := h d (List.mem_of_getElem? hd)
    have tk1 : ds.take (i + 1) = ds.take i ++ [d] := by rw [List.take_add_one, hd]; rfl
    refine ⟨ρ3, hs, fun s0 H0 C cl fp => ?_⟩
    intro σ H B Q Wx tk rl q z
    refine he s0 H0 C cl fp σ H B Q Wx tk rl (fun b B' ρ' H' g r' hb => q b B' ρ' H' g r' ?_) z
    obtain ⟨eb, e4, hy⟩ := hb
    subst e4
    refine ⟨fun e => ⟨?_, hw⟩, fun e s1 H1 C1 cl1 fp1 => (hy (eb.symm.trans e) s1 H1 C1 cl1 fp1).imp fun r ρ5 ⟨er, e5⟩ => ?_⟩
    · have e : p d = false := eb.symm.trans e
      rw [tk1, List.filter_append, List.filter_cons, if_neg (by rw [e]; decide)]
      simp
    · have e : p d = true := eb.symm.trans e
      subst er e5
      refine ⟨trivial, ?_, hw⟩
      rw [tk1, List.filter_append, List.filter_cons, if_pos e, List.map_append]
      rfl
  · subst e1 e2
    rw [List.take_length]
    exact k
end
end Bs
set_option maxHeartbeats 2000000
namespace Bs
open PySem PySem.Spec PyProof.Rows L2
section
variable {X : Cx} {Y : WY} {ρ : Rho} {D : Ed} {R : Rv → Rho → Prop} {a b c e : Expr} {es : List Expr} {pos p p2 apos : Pos} {x m : Str} {body : List Stmt} {id T name : String}
/-! ### raise, try -/
structure ExC (X : Cx) (x : Str) (C : Addr) : Prop where
  ei : PySem.W.excIn X.K C [.type "ValueError", .type "Exception", .type "BaseException", .type "object"] "ValueError.__new__" = true
  gC : X.mg x = some (.ref C)
  kC : PySem.W.keepIn X.K (.ref C) = true
  bC : PySem.W.subIn X.K (.ref C) (.type "BaseException") = some true
  tC : PySem.W.typeIn X.K (.ref C) = some (.type "type")
theorem w1_raise {C : Addr} {j : Nat} (E : ExC X x C) (hc : X.calm = true) (hg : Gl X x) (hdb : (x == ("__debug__" : Str)) = false) (h : Y (.ref C) [] ρ) : W1 X Y (.Raise (some (.Call (.Name x p) [.Constant (.str m) j p2] [] apos)) none pos) ρ D :=
  fun σ H B K' Wx tk rl q z pins s I => (ps_raise hc tk (pmk_own PySem.F.excBase_ValueError E.ei E.gC E.kC (raises_own E.bC E.tC) hg hdb)).run pins s σ H K' I (z (.ref C) none (.ref C) [] B ρ σ H rfl (Go.refl _ _ _) rl ⟨rfl, .inl ⟨rfl, rfl⟩⟩ h)
/-- except clauses without names -/
def hY (X : Cx) (Y : WY) (D : Ed) : List (Value × List Stmt) → WY
  | [] => Y
  | (cv, su) :: r => fun c fs ρ => ∃ b, PySem.W.exmOne X.K c cv = some b ∧ (b = true → ∀ a pn, WS (X.suite a pn) yNo su ρ D) ∧ (b = false → hY X Y D r c fs ρ)
inductive HdOk (X : Cx) : List ExceptHandler → List (Value × List Stmt) → Prop
  | nil : HdOk X [] []
  | cons {x : Str} {cv : Value} {b₀ : Stmt} {suite : List Stmt} {np pos' : Pos} {hds : List ExceptHandler} {l : List (Value × List Stmt)} (hc : Names X x cv) (r : HdOk X hds l) : HdOk X (.ExceptHandler (some (.Name x np)) none (b₀ :: suite) pos' :: hds) ((cv, b₀ :: suite) :: l)
def tsOf (X : Cx) (su : List Stmt) : Addr → Value → Option Addr → TS := fun a cls d D σ H => ∀ oe pn, Zc cls d oe → (∃ vs, oe.data = .fields vs) → sS (X.suite a ((a, oe) :: pn)) su D σ H
theorem HdOk.to {hds : List ExceptHandler} {l : List (Value × List Stmt)} (h : HdOk X hds l) : HdsOk X hds (l.map fun p => (p.1, tsOf X p.2)) := by
  induction h with
  | nil => exact .nil
  | cons hc r ih => exact .cons hc (fun a oe cls d pn hz hd => ⟨fun pins s σ H D I h => h oe pn hz hd pins s I⟩) ih
theorem w1_try {h0 : ExceptHandler} {hds : List ExceptHandler} {l : List (Value × List Stmt)} (hs : X.stack = X.env :: X.outer) (hf : X.env.frame = some X.env.locals) (hh : HdOk X (h0 :: hds) l)
    (h : ∀ pn xe, PassesOwn (model X.prog X.w) X.A X.env xe → WS (X.tr pn xe) (hY X Y D l) body ρ D) : W1 X Y (.Try body (h0 :: hds) [] [] pos) ρ D := by
  intro σ H B K' Wx tk rl q z pins s I
  have tb : ∀ (W : WX) (pn : List (Addr × Obj)) (xe : Value → Shared → Prop), Takes (X.tr pn xe) W → PassesOwn (model X.prog X.w) X.A X.env xe → PSs (X.tr pn xe) body (fun D σ H => ∀ pn xe, Takes (X.tr pn xe) W → PassesOwn (model X.prog X.w) X.A X.env xe → sS (X.tr pn xe) body D σ H) :=
    fun W pn xe tk po => ⟨fun pins s σ H D I h => h pn xe tk po pins s I⟩
  refine (ps_try_many (pos := pos) hs hf tk tb hh.to).run pins s σ H K' I fun pn xe tk' po => ?_
  refine (h pn xe po).run tk' rl ⟨q.nx, q.rt, q.bk, q.ct⟩ ?_
  -- the clauses
  have go : ∀ l : List (Value × List Stmt), ∀ cls d c fs B' ρ' σ' H', σ'.length = σ.length → Go B ρ H B' ρ' H' → Rel X.K B' ρ' σ' H' → XOk X.K B' H' cls d c fs → hY X Y D l c fs ρ' → wMany X.K Wx K' (l.map fun p => (p.1, tsOf X p.2)) cls d σ' H' := by
    intro l
    induction l with
    | nil => exact fun cls d c fs B' ρ' σ' H' hl g r xo y => z cls d c fs B' ρ' σ' H' hl g r xo y
    | cons p l ih =>
      obtain ⟨cv, su⟩ := p
      intro cls d c fs B' ρ' σ' H' hl g r xo ⟨b, eb, hy, hn⟩
      obtain ⟨rfl, xo2⟩ := xo
      refine ⟨b, eb, fun e a _ oe pn hz hd => ?_, fun e => ih cls d cls fs B' ρ' σ' H' hl g r ⟨rfl, xo2⟩ (hn e)⟩
      have hw := hy e a ((a, oe) :: pn)
      have qq := q.on g hl
      exact hw.run takesNo r ⟨qq.nx, qq.rt, qq.bk, qq.ct⟩ (fun _ _ _ _ _ _ _ _ _ _ _ _ w => w.elim)
  exact go l
/-! ### list + list -/
def Rv.isL : Rv → List PyData → Prop
  | .n ds, es => ds = es
  | .b _ ds, es => ds = es
  | .d _, _ => False
theorem VOk.tracked {K : PySem.W.Frag} {H0 B H : Hp} {ρ : Rho} {σ : L2.St} {v : V} {r : Rv} {ds : List PyData} (vo : VOk K H0 B ρ H v r) (rl : Rel K B ρ σ H) (h : r.isL ds) : ∃ a vs, v = .ref a ∧ H a = some (.lst vs) ∧ DpAll K B vs ds := by
  cases r with
  | d d => exact h.elim
  | n es =>
    cases h
    obtain ⟨p, vs, rfl, _, _, _, hp, a⟩ := vo
    exact ⟨p, vs, rfl, hp, a⟩
  | b i es =>
    cases h
    obtain ⟨p, rfl, ep⟩ := vo
    have hi : i < σ.length := by rw [← rl.len]; exact (List.getElem?_eq_some_iff.mp ep).1
    obtain ⟨_, _, vs, h, a⟩ := rl.sl i _ _ ep (List.getElem?_eq_getElem hi)
    exact ⟨p, vs, rfl, h, a⟩
theorem we_cat (h : WE X Y a ρ fun x ρ1 => WE X Y b ρ1 fun y ρ2 => Cur ρ1 ρ2 x ∧ ∃ xs ys, x.isL xs ∧ y.isL ys ∧ xs.length + ys.length ≤ sizeLine ∧ R (.n (xs ++ ys)) ρ2) : WE X Y (.BinOp a .Add b pos) ρ R :=
  WE.of (pe_op op_cat pe_sE pe_sE) fun σ H B Q Wx tk rl q x => h.run tk rl (fun v1 r1 B1 ρ1 H1 g1 rl1 vo1 hb => hb.run tk rl1 (fun v2 r2 B2 ρ2 H2 g2 rl2 vo2 hz => by
    obtain ⟨cu, xs, ys, l1, l2, hz, hr⟩ := hz
    obtain ⟨a1, vs, rfl, h1, d1⟩ := (vo1.on g2 cu).tracked rl2 l1
    obtain ⟨a2, ws, rfl, h2, d2⟩ := vo2.tracked rl2 l2
    refine ⟨a1, a2, vs, ws, rfl, rfl, h1, h2, by rw [DpAll.len d1, DpAll.len d2]; exact hz, fun p hp => ?_⟩
    obtain ⟨g3, rl3, vo3⟩ := (Mk.nw (K := X.K) hp (DpAll.app d1 d2)).go (g1.trans g2) rl2
    exact q _ _ B2 ρ2 _ g3 rl3 vo3 hr) (x.on g1 rfl)) x
/-- list * int -/
theorem we_rep (h : WE X Y a ρ fun x ρ1 => WE X Y b ρ1 fun y ρ2 => Cur ρ1 ρ2 x ∧ ∃ xs k, x.isL xs ∧ y.dt = .int k ∧ k.natAbs < 1000000 ∧ xs.length * k.toNat ≤ sizeLine ∧ R (.n (List.replicate k.toNat xs).flatten) ρ2) : WE X Y (.BinOp a .Mult b pos) ρ R :=
  WE.of (pe_op op_rep pe_sE pe_sE) fun σ H B Q Wx tk rl q x => h.run tk rl (fun v1 r1 B1 ρ1 H1 g1 rl1 vo1 hb => hb.run tk rl1 (fun v2 r2 B2 ρ2 H2 g2 rl2 vo2 hz => by
    obtain ⟨cu, xs, k, l1, ek, hk, hz, hr⟩ := hz
    obtain ⟨a1, vs, rfl, h1, d1⟩ := (vo1.on g2 cu).tracked rl2 l1
    have w := vo2.vw rl2
    rw [ek] at w
    have dr : ∀ n : Nat, DpAll X.K B2 (List.replicate n vs).flatten (List.replicate n xs).flatten := fun n => by
      induction n with
      | zero => exact .nil
      | succ n ih =>
        rw [List.replicate_succ, List.replicate_succ, List.flatten_cons, List.flatten_cons]
        exact DpAll.app d1 ih
    refine ⟨a1, k, vs, rfl, w.int, h1, by omega, by omega, by rw [DpAll.len d1]; exact hz, fun p hp => ?_⟩
    obtain ⟨g3, rl3, vo3⟩ := (Mk.nw (K := X.K) hp (dr k.toNat)).go (g1.trans g2) rl2
    exact q _ _ B2 ρ2 _ g3 rl3 vo3 hr) (x.on g1 rfl)) x
/-- text * int -/
inductive SMulS : PyData → PyData → Rv → Prop
  | mk (x : Str) (n : Int) (h : MulOk x n) : SMulS (.str x) (.int n) (.d (.str (Txt.mul x n)))
def rMulS : R2 := fun x y H Q => ∃ z n, x = .str z ∧ y = .int n ∧ MulOk z n ∧ Q (.str (Txt.mul z n)) H
theorem op_mulS : OpR X (binaryOp .Mult) rMulS := by
  intro pins s σ H x y v u Q I rx ry h
  obtain ⟨z, n, rfl, rfl, ok, q⟩ := h
  obtain ⟨t, rfl⟩ := rx
  obtain ⟨t', rfl⟩ := ry
  exact SB.mul ok fun t' k => ⟨.str _, H, I.tok k, ⟨t', rfl⟩, q⟩
theorem o2_mulS : Op2 (fun _ => rMulS) SMulS := fun X B H x y d e z Q s u vx vy k => by
  cases s with
  | mk x n h => exact ⟨x, n, vx.str, vy.int, h, k _ B H (.sc (.str _))⟩
/-! ### repr -/
def rRepr (K : PySem.W.Frag) : List V → Hp → VK → Prop := fun xs H Q => ∃ v d, xs = [v] ∧ Dp K H v d ∧ d.showable = true ∧ d.shown.length ≤ sizeLine ∧ d.depth ≤ 60 ∧ Q (.str d.shown) H
mutual
theorem dp_nodict {K : PySem.W.Frag} {H : Hp} : ∀ {d : PyData} {v : V}, Dp K H v d → d.hasDict = false
  | _, _, .non => by simp [PyData.hasDict]
  | _, _, .bl _ => by simp [PyData.hasDict]
  | _, _, .int _ => by simp [PyData.hasDict]
  | _, _, .str _ => by simp [PyData.hasDict]
  | _, _, .lst _ a => by rw [PyData.hasDict]; exact dpAll_nodict a
  | _, _, .tup _ a => by rw [PyData.hasDict]; exact dpAll_nodict a
theorem dpAll_nodict {K : PySem.W.Frag} {H : Hp} : ∀ {ds : List PyData} {vs : List V}, DpAll K H vs ds → PyData.hasDictAll ds = false
  | _, _, .nil => by simp [PyData.hasDictAll]
  | _, _, .cons h t => by rw [PyData.hasDictAll, dp_nodict h, dpAll_nodict t]; rfl
end
theorem call_repr (hg : X.A.guards = some []) (hu : X.A.units + 64 < cLine) : CallR X (.builtin "repr") (rRepr X.K) := by
  intro pins s σ H xs us Q I r h
  obtain ⟨v, d, rfl, dv, hs, hz, hd, q⟩ := h
  obtain ⟨u, rfl, ru⟩ := vals1 r
  have onRef : ∀ {a : Addr}, v = .ref a → wpAny (model X.prog X.w) X.A (call (.builtin "repr") [u]) (EP X pins σ Q) X.xe s := fun {a} e => by
    subst e
    obtain rfl : u = .ref a := ru
    obtain ⟨as, rr⟩ := Dp.reads I d (.ref a) (.ref a) dv rfl
    exact repr_of_reads' rr hs (PyData.noDict_hsm (dp_nodict dv)) hg (by omega) (fun _ _ e => e) (fun h' t tk hk => ⟨.str _, H, I.kept (t' := tk) hk, ⟨t, rfl⟩, q⟩) hz
  cases dv with
  | non => cases ru; exact PySem.P.repr_of_none ⟨.str _, H, I.tok _, ⟨_, rfl⟩, q⟩
  | bl b => cases ru; exact PySem.P.repr_of_bool ⟨.str _, H, I.tok _, ⟨_, rfl⟩, q⟩
  | int i =>
    obtain ⟨t, rfl⟩ := ru
    exact PySem.P.repr_of_int (of_decide_eq_true hs) ⟨.str _, H, I.tok _, ⟨_, rfl⟩, q⟩
  | str x =>
    obtain ⟨t, rfl⟩ := ru
    exact PySem.P.repr_of_str ⟨.str _, H, I.tok _, ⟨_, rfl⟩, q⟩ hz
  | lst s a => exact onRef rfl
  | tup s a => exact onRef rfl
theorem oN_repr : OpN (fun X => rRepr X.K) SRep := fun X B H vs ds z Q s u vx k => by
  cases s with
  | mk d h1 h2 h3 =>
    obtain ⟨v, rfl, w⟩ := vwa1 vx
    exact ⟨v, d, rfl, w.dp u, h1, h2, h3, k _ B H (.sc (.str _))⟩
/-! ### slices -/
def sO (X : Cx) : Option Expr → TO
  | none => tNoPart
  | some e => tPart (sE X e)
theorem po_sO : ∀ o : Option Expr, PO X o (sO X o)
  | none => po_none
  | some e => po_some pe_sE
def WO (X : Cx) (Y : WY) : Option Expr → Rho → (Option Int → Rho → Prop) → Prop
  | none, ρ, P => P none ρ
  | some e, ρ, P => WE X Y e ρ fun r ρ1 => ∃ i, r.dt = .int i ∧ P (some i) ρ1
theorem WO.go {P : Option Int → Rho → Prop} : ∀ {o : Option Expr}, WO X Y o ρ P → ∀ {σ : L2.St} {H B : Hp} {Q : Option Int → Hp → Prop} {Wx : WX}, Takes X Wx → Rel X.K B ρ σ H → (∀ i B' ρ' H', Go B ρ H B' ρ' H' → Rel X.K B' ρ' σ H' → P i ρ' → Q i H') → Xw X Y Wx σ B ρ H → sO X o σ H Q
  | none, h, σ, H, B, Q, Wx, tk, rl, q, z => q none B ρ H (Go.refl _ _ _) rl h
  | some e, h, σ, H, B, Q, Wx, tk, rl, q, z => h.run tk rl (fun v r B' ρ' H' g rl' vo ⟨i, ei, hp⟩ => by
    have w := vo.vw rl'
    rw [ei] at w
    exact ⟨i, w.int, q (some i) B' ρ' H' g rl' hp⟩) z
def OpS (r : L2.Cx → V → Option Int → Option Int → Hp → VK → Prop) (S : PyData → Option Int → Option Int → Rv → Prop) : Prop := ∀ (X : Cx) (B H : Hp) (x : V) (d : PyData) (l u : Option Int) (z : Rv) (Q : VK), S d l u z → Up B H → Vw X.K B H x d → (∀ v B' H', Mk X.K B H z v B' H' → Q v H') → r X x l u H Q
theorem we_slice {r : L2.Cx → V → Option Int → Option Int → Hp → VK → Prop} {S : PyData → Option Int → Option Int → Rv → Prop} {lo hi : Option Expr} (hr : SlR X (r X)) (hS : OpS r S)
    (h : WE X Y a ρ fun x ρ1 => WO X Y lo ρ1 fun l ρ2 => WO X Y hi ρ2 fun u ρ3 => Cur ρ1 ρ3 x ∧ ∃ z, S x.dt l u z ∧ R z ρ3) : WE X Y (.Subscript a (.Slice lo hi none p2) pos) ρ R :=
  WE.of (pe_slice hr pe_sE (po_sO lo) (po_sO hi)) fun σ H B Q Wx tk rl q x => h.run tk rl (fun v1 r1 B1 ρ1 H1 g1 rl1 vo1 hb => hb.go tk rl1 (fun l B2 ρ2 H2 g2 rl2 hb2 => hb2.go tk rl2 (fun u B3 ρ3 H3 g3 rl3 hz => by
    obtain ⟨cu, z, hs, hr⟩ := hz
    refine hS X B3 H3 v1 _ l u z Q hs rl3.up ((vo1.on (g2.trans g3) cu).vw rl3) fun v B' H' m => ?_
    obtain ⟨g4, rl4, vo4⟩ := m.go ((g1.trans g2).trans g3) rl3
    exact q v z B' ρ3 H' g4 rl4 vo4 hr) ((x.on g1 rfl).on g2 rfl)) (x.on g1 rfl)) x
/-- the items of a slice -/
def cutD (xs : List PyData) (lo hi : Option Int) : List PyData := (xs.drop (HT.sIx xs.length 0 lo)).take (HT.sIx xs.length xs.length hi - HT.sIx xs.length 0 lo)
theorem cut_dp {K : PySem.W.Frag} {B : Hp} {vs : List V} {ds : List PyData} {lo hi : Option Int} (h : DpAll K B vs ds) : DpAll K B (cutV vs lo hi) (cutD ds lo hi) := by
  unfold cutV cutD
  rw [DpAll.len h]
  exact DpAll.take _ (DpAll.drop _ h)
inductive SSl : PyData → Option Int → Option Int → Rv → Prop
  | lst (ds : List PyData) (l u : Option Int) : SSl (.list ds) l u (.n (cutD ds l u))
inductive SSt : PyData → Option Int → Option Int → Rv → Prop
  | tup (ds : List PyData) (l u : Option Int) : SSt (.tuple ds) l u (.d (.tuple (cutD ds l u)))
inductive SSs : PyData → Option Int → Option Int → Rv → Prop
  | str (z : Str) (l u : Option Int) (h : z.length ≤ sizeLine) : SSs (.str z) l u (.d (.str (cutS z l u)))
theorem oS_lst : OpS (fun X => rSlL X.K) SSl := fun X B H x d l u z Q s up vx k => by
  cases s with
  | lst ds =>
    obtain ⟨a, vs, rfl, sH, da⟩ := vx.lst up
    exact ⟨a, vs, rfl, sH, fun p hp => k _ _ _ (.nw hp (cut_dp da))⟩
theorem cutD_whole {ds : List PyData} {lo hi : Option Int} (h : HT.sIx ds.length 0 lo = 0 ∧ HT.sIx ds.length ds.length hi = ds.length) : cutD ds lo hi = ds := by
  unfold cutD
  rw [h.1, h.2]
  simp
theorem oS_tup : OpS (fun X => rSlA X.K) SSt := fun X B H x d l u z Q s up vx k => by
  cases s with
  | tup ds =>
    obtain ⟨a, vs, rfl, sB, sH, da⟩ := vx.tup up
    refine ⟨a, vs, rfl, sH, fun hw => ?_, fun _ p hp => k _ _ _ (.ld hp (.tup (.of upd_same) (DpAll.up (Up.new (none_up up hp)) (cut_dp da))))⟩
    rw [DpAll.len da] at hw
    rw [cutD_whole hw] at k
    exact k _ B H (.sc (.tup sB da))
theorem oS_str : OpS (fun _ => rSlS) SSs := fun X B H x d l u z Q s up vx k => by
  cases s with
  | str z _ _ h => exact ⟨z, vx.str, h, k _ B H (.sc (.str _))⟩
/-! ### methods of texts -/
def OpM (r : L2.Cx → V → List V → Hp → VK → Prop) (S : PyData → List PyData → Rv → Prop) : Prop := ∀ (X : Cx) (B H : Hp) (x : V) (vs : List V) (d : PyData) (ds : List PyData) (z : Rv) (Q : VK), S d ds z → Up B H → Vw X.K B H x d → VwA X.K B H vs ds → (∀ v B' H', Mk X.K B H z v B' H' → Q v H') → r X x vs H Q
/-- a method of a text with arguments -/
theorem we_strM {r : L2.Cx → V → List V → Hp → VK → Prop} {S : PyData → List PyData → Rv → Prop} {nm : Str} (slot : Slot "str" nm id) (hty : typeOf (.builtin id) = pure (.type "method_descriptor")) (hm : MtR X id (r X)) (hS : OpM r S)
    (hbase : attributeBase a nm X.env (eval a X.env) = eval a X.env)
    (hfew : ((backTo pos (starEach (e :: es) X.env)).all (fun x => !x.1) && (backToKw pos (keywordEach [] X.env)).all (fun x => x.1.isSome) && decide ((e :: es).length + ([] : List Keyword).length + (if ([] : List Keyword).isEmpty then 0 else 1) < 30)) = true)
    (hline : (apos.endLine == pos.line) = true) (hs : starEach (e :: es) X.env = (false, eval e X.env) :: starEach es X.env) (hpl : (backTo pos (starEach es X.env)).any (·.1) = false)
    (h : WE X Y a ρ fun o ρ1 => (∃ z, o = .d (.str z)) ∧ WA X Y (e :: es) ρ1 fun rs ρ2 => ∃ z, S o.dt (rs.map Rv.dt) z ∧ R z ρ2) : WE X Y (.Call (.Attribute a nm apos) (e :: es) [] pos) ρ R :=
  WE.of (pe_bm PySem.F.plainAttrs_str slot hty hm pe_sE pa_sA hbase hfew hline hs hpl) fun σ H B Q Wx tk rl q x => h.run tk rl (fun v1 r1 B1 ρ1 H1 g1 rl1 vo1 hk => by
    obtain ⟨⟨zs, rfl⟩, hb⟩ := hk
    have ev : v1 = .str zs := by
      have w := vo1.vw rl1
      exact w.str
    subst ev
    refine ⟨rfl, ?_⟩
    refine hb σ H1 B1 _ Wx tk rl1 (fun vs rs B2 ρ2 H2 g2 rl2 vo2 _ hz => ?_) (x.on g1 rfl)
    obtain ⟨z, hs, hr⟩ := hz
    refine hS X B2 H2 (.str zs) vs _ _ z Q hs rl2.up (.inl (.str zs)) (vo2.vw rl2) fun v B' H' m => ?_
    obtain ⟨g4, rl4, vo4⟩ := m.go (g1.trans g2) rl2
    exact q v z B' ρ2 H' g4 rl4 vo4 hr) x
def strsD (xs : List Str) : List PyData := xs.map PyData.str
theorem strs_vals {K : PySem.W.Frag} {B : Hp} : ∀ {ns : List Str} {vs : List V}, DpAll K B vs (strsD ns) → vs = ns.map V.str
  | [], _, .nil => rfl
  | n :: ns, _, .cons (.str _) t => congrArg (V.str n :: ·) (strs_vals t)
inductive SJoin : PyData → List PyData → Rv → Prop
  | mk (a : Str) (ys : List Str) (h : (ys.map (·.length)).sum + ys.length * a.length ≤ 16777216) : SJoin (.str a) [.list (strsD ys)] (.d (.str (Txt.join a ys)))
def rJoinA (K : PySem.W.Frag) : V → List V → Hp → VK → Prop := fun x xs H Q => ∃ a p, ∃ ys : List Str, x = .str a ∧ xs = [.ref p] ∧ (SqL K H p (ys.map V.str) ∨ SqT K H p (ys.map V.str)) ∧ (ys.map (·.length)).sum + ys.length * a.length ≤ 16777216 ∧ Q (.str (Txt.join a ys)) H
theorem oM_join : OpM (fun X => rJoinA X.K) SJoin := fun X B H x vs d ds z Q s u vx va k => by
  cases s with
  | mk a ys h =>
    obtain ⟨v, rfl, w⟩ := vwa1 va
    obtain ⟨p, ws, rfl, sH, da⟩ := w.lst u
    rw [strs_vals da] at sH
    exact ⟨a, p, ys, vx.str, rfl, .inl sH, h, k _ B H (.sc (.str _))⟩
inductive SSIndex : PyData → List PyData → Rv → Prop
  | mk (a b : Str) (i : Nat) (rest : List Nat) (h : Builtin.Str.occurrences a b 0 a.length 1 = i :: rest) : SSIndex (.str a) [.str b] (.d (.int i))
def rIndexA : V → List V → Hp → VK → Prop := fun x xs H Q => ∃ a b i rest, x = .str a ∧ xs = [.str b] ∧ Builtin.Str.occurrences a b 0 a.length 1 = i :: rest ∧ Q (.int (i : Nat)) H
theorem oM_index : OpM (fun _ => rIndexA) SSIndex := fun X B H x vs d ds z Q s u vx va k => by
  cases s with
  | mk a b i rest h =>
    obtain ⟨v, rfl, w⟩ := vwa1 va
    rw [w.str]
    exact ⟨a, b, i, rest, vx.str, rfl, h, k _ B H (.sc (.int _))⟩
inductive SSFind : PyData → List PyData → Rv → Prop
  | mk (a b : Str) : SSFind (.str a) [.str b] (.d (.int (Txt.find a b)))
def rFindA : V → List V → Hp → VK → Prop := fun x xs H Q => ∃ a b, x = .str a ∧ xs = [.str b] ∧ Q (.int (Txt.find a b)) H
theorem oM_find : OpM (fun _ => rFindA) SSFind := fun X B H x vs d ds z Q s u vx va k => by
  cases s with
  | mk a b =>
    obtain ⟨v, rfl, w⟩ := vwa1 va
    rw [w.str]
    exact ⟨a, b, vx.str, rfl, k _ B H (.sc (.int _))⟩
end
end Bs
set_option maxHeartbeats 2000000
namespace Bs
open PySem PySem.Spec PyProof.Rows L2

/-- the law's def keeps this: of a list of at most n ints it gives True -/
def spLaw (n : Nat) : BSp := fun as R _ => ∃ ns : List Int, as = [.dat (.list (intsD ns))] ∧ ns.length ≤ n ∧ ∀ as', R (.d (.bool true)) as'
theorem ints_dp {K : PySem.W.Frag} {H : Hp} : ∀ ns : List Int, DpAll K H (ns.map V.int) (intsD ns)
  | [] => .nil
  | n :: ns => .cons (.int n) (ints_dp ns)
/-- one thing told, at a -/
def scrH (a : Addr) (u : HO) : Hp := fun b => if b = a then some u else none
theorem scrH_at {a : Addr} {u : HO} : scrH a u a = some u := if_pos rfl
theorem scrH_of {a b : Addr} {u v : HO} (h : scrH a u b = some v) : b = a ∧ v = u := by
  unfold scrH at h
  by_cases e : b = a
  · rw [if_pos e] at h
    exact ⟨e, (Option.some.inj h).symm⟩
  · rw [if_neg e] at h
    cases h
/-- the law's run at the heap behind the top -/
theorem law_run {P : Program} {w : World} {K : PySem.W.Frag} {mg mb : Str → Option Value} {k n : Nat} {fa a : Addr} {fd : FuncData} {x : Str} {s₁ : Shared} {vs : List Value} {ns : List Int}
    (kIn : K.In s₁.heap) (nsG : s₁.heap.Ns mainGlobals mg) (nsB : s₁.heap.Ns builtinsNs mb) (isB : ∀ x : Str, x ≠ "__name__" → mb x = bootBuiltins x) (lim : s₁.heap.NoLimit) (gens : s₁.gens = #[])
    (at_a : s₁.heap.get? a = some { cls := .type "list", data := .seq vs.toArray }) (areI : IntsAre vs ns) (few : ns.length ≤ sizeLine) (few2 : ns.length ≤ n) (room : Room k callerA)
    (F : ∀ base : Heap, K.In base → base.Ns mainGlobals mg → FnB P w K mg base k fa fd [x] (spLaw n)) (bind : ∀ (s : Shared) (u : Value), BindsTo s fd ⟨[u], []⟩ [(x, u)]) :
    codeAny (model P w) callerA (.call (.ref fa) ⟨[.ref a], []⟩) (fun r s' => r = .ok (.ret (.bool true)) ∧ OldK s₁.heap s'.heap ∧ s'.os = s₁.os ∧ AllBare s'.gens) s₁ := by
  have vv : Vals (ns.map V.int) vs := vals_ints areI
  have same := areI.length
  -- told over any abstract heap that tells of the script alone
  suffices main : ∀ H : Hp, (∀ b u, H b = some u → b = a ∧ ∃ ob, u = .frz ob (.lst (ns.map V.int))) → SqL K H a (ns.map V.int) → HOk P w H s₁.heap → (H a ≠ none → K.lookup a = none) →
      codeAny (model P w) callerA (.call (.ref fa) ⟨[.ref a], []⟩) (fun r s' => r = .ok (.ret (.bool true)) ∧ OldK s₁.heap s'.heap ∧ s'.os = s₁.os ∧ AllBare s'.gens) s₁ by
    cases hk : K.lookup a with
    | none =>
      refine main (scrH a (.frz { cls := .type "list", data := .seq vs.toArray } (.lst (ns.map V.int)))) (fun b u hu => ?_) (Or.inl (Or.inr ⟨_, scrH_at⟩)) (fun b u hu => ?_) (fun _ => hk)
      · obtain ⟨e1, e2⟩ := scrH_of hu
        exact ⟨e1, _, e2⟩
      · obtain ⟨e1, e2⟩ := scrH_of hu
        subst e1 e2
        exact ⟨at_a, by rw [List.length_map]; exact few, vs, _, vv, at_a⟩
    | some o =>
      have e := kIn a o hk
      rw [at_a] at e
      cases e
      refine main (fun _ => none) (fun b u hu => by cases hu) (Or.inr ⟨_, vs.toArray, _, hk, rfl, rfl, rfl, ?_, ?_⟩) (fun b u hu => by cases hu) (fun z => absurd rfl z)
      · rw [List.size_toArray, same]; exact few
      · rw [List.toList_toArray]; exact vv
  intro H only sq ok notK
  have keep : ∀ {b : Addr} {o : Obj}, s₁.heap.get? b = some o → H b = none → (hidT s₁.heap H).get? b = some o := fun e z => hidT_get e z
  have dictFree : ∀ {b : Addr} {o : Obj} {es : Array DictEntry} {ep : Nat}, s₁.heap.get? b = some o → o.data = .dict es ep → H b = none := fun {b o es ep} e dd => by
    cases q : H b with
    | none => rfl
    | some u =>
      rw [(only b u q).1, at_a] at e
      cases e
      cases (show Data.seq vs.toArray _ = Data.dict es ep from dd)
  have nsH : ∀ {b : Addr} {m : Str → Option Value}, s₁.heap.Ns b m → (hidT s₁.heap H).Ns b m := fun {b m} ⟨o, es, ep, e, dd, r⟩ => ⟨o, es, ep, keep e (dictFree e dd), dd, r⟩
  have kH : K.In (hidT s₁.heap H) := fun b o e => by
    refine keep (kIn b o e) ?_
    cases q : H b with
    | none => rfl
    | some u =>
      have eb := (only b u q).1
      subst eb
      rw [notK (by rw [q]; exact fun z => nomatch z)] at e
      cases e
  have nolim : (hidT s₁.heap H).NoLimit := by
    obtain ⟨mc, l1, l2⟩ := lim
    exact ⟨mc, nsH l1, l2⟩
  have env : Env0 P w K mg (hidT s₁.heap H) callerA [] s₁ H := by
    refine ⟨rfl, ⟨kH, nsH nsG, ⟨mb, nsH nsB, isB⟩, nolim⟩, fun b o e => of_hidT e, ?_, trivial, fun b hb => ?_, ok, .of_eq gens⟩
    · rw [hidT_size]; exact Nat.le_refl _
    · cases (show b ∈ ([] : List Addr) from hb)
  have rel : Rel K H [Sl.dat (.list (intsD ns))] ([V.ref a].map some) H := by
    refine ⟨Up.rfl' H, rfl, fun i s o e1 e2 => ?_, fun i j p ds es e1 _ => ?_⟩
    · cases i with
      | zero =>
        have e1 : some (Sl.dat (.list (intsD ns))) = some s := e1
        have e2 : some (some (V.ref a)) = some o := e2
        cases e1
        cases e2
        exact ⟨_, rfl, .lst sq (ints_dp ns)⟩
      | succ i => cases i <;> cases e1
    · cases i with
      | zero => cases e1
      | succ i => cases i <;> cases e1
  have run := (F _ kH (nsH nsG)).run callerA [] s₁ H H ⟨[.ref a], []⟩ [.ref a] [.ref a] [Sl.dat (.list (intsD ns))] (fun r _ => r = .d (.bool true)) (fun _ _ _ => False) room rfl env (bind s₁ (.ref a)) (.cons rfl .nil) rel ⟨ns, rfl, few2, fun _ => rfl⟩
  refine codeAny_mono run fun r s' hr => ?_
  cases r with
  | error e =>
    obtain ⟨_, _, _, _, _, _, _, _, _, _, _, _, ce, fs, B', as', _, _, _, z⟩ := hr
    exact False.elim z
  | ok fl =>
    cases fl with
    | ret u =>
      obtain ⟨v, H', os, bare, un, ok', rv, r, B', as', _, _, vo, _, er⟩ := hr
      subst er
      have vo : Dp K B' v (.bool true) := vo
      cases vo
      obtain rfl : u = Value.bool true := rv
      refine ⟨rfl, OldK.of_keep fun b o e => ?_, os, bare⟩
      cases q : H b with
      | none => exact un.keep b o e q (fun z => by cases (show b ∈ ([] : List Addr) from z)) (fun z => by cases z)
      | some t =>
        obtain ⟨eb, ob, et⟩ := only b t q
        subst et
        have o1 := (ok b _ q).1
        have o2 := (ok' b _ (un.frzs b ob _ q)).1
        rw [e] at o1
        cases o1
        exact o2
    | next => exact False.elim hr
    | brk => exact False.elim hr
    | cont => exact False.elim hr
theorem law_walk {l : PySem.W.OpenLaw} {n k : Nat} {q : Program} {loose : List Str} {XP : (Str → Option Value) → Heap → Prop} {YP : World → Heap → Prop} {d : DefRec} {K : Params → PySem.W.Frag} {x : Str}
    (most : l.most = some n) (small : n ≤ sizeLine) (plain : d.params.defaults = []) (room : Room k callerA) (inK : ∀ (w : World) (h : Heap), YP w h → (K w.params).In h)
    (F : ∀ (w : World) (mg : Str → Option Value) (fa : Addr) (h : Heap), (K w.params).In h → h.Ns mainGlobals mg → mg d.name = some (.ref fa) →
      ∃ fd : FuncData, (∀ (s : Shared) (u : Value), BindsTo s fd ⟨[u], []⟩ [(x, u)]) ∧ ∀ base : Heap, (K w.params).In base → base.Ns mainGlobals mg → FnB l.prog w (K w.params) mg base k fa fd [x] (spLaw n)) :
    PySem.W.WalkO q loose XP YP l.row.toRowW d [] (fun f vs => PySem.call f vs) :=
  Att.attach_call most plain fun w s₀ s₁ mg mb fa o pm cd doc a vs ns G Y ho hd hcd hmg hobj hints hlen hg => by
    have kX := inK w _ Y
    obtain ⟨fd, hb, hF⟩ := F w mg fa _ kX G.T.g hmg
    exact law_run kX G.T.g G.T.b G.T.builtins G.T.nolimit hg hobj hints (Nat.le_trans hlen small) hlen room hF hb
/-- THE RULE of a def -/
theorem def_ok {P : Program} {w : World} {K : PySem.W.Frag} {mg : Str → Option Value} {base : Heap} {x qual : Str} {st : Stmt} {f : Addr} {fd : FuncData} {N ps : List Str} {k : Nat} {sp : BSp} (F : L2.Fun K x qual st f fd) (S : FnScope N ps (defScope st)) (len : ∀ as R Y, sp as R Y → as.length = ps.length)
    (hbody : ∀ (cdv : Value) (A : Around) (outer : List Env) (s : Shared) (H : Hp) (E : XK), Room k (A.deeper (envOfC qual (defScope st) s.heap.objs.size f cdv)) → A.guards = some [] → ∀ (as : Rho) (R : Rv → Rho → Prop) (Y : WY), sp as R Y →
      WS (cxOf (L2.CX P w) P w K mg base N qual (defScope st) f cdv A outer s H E) (yB as Y) (defBody st) (start0 N.length as) (edB as R)) : FnB P w K mg base (k + 1) f fd ps sp := by
  obtain ⟨oc, od, kV, doc, pm, an, cdv, ct, osl, rfl, lk, hcd⟩ := F.ex
  exact fnB_of lk hcd S len fun A outer s H E => hbody cdv A outer s H E
end Bs
set_option maxHeartbeats 2000000
namespace Bs
open PySem PySem.Spec PyProof.Rows L2
/-- where a body stands, as calls see it -/
structure InD (X : Cx) (P : Program) (w : World) (K : PySem.W.Frag) (mg : Str → Option Value) (base : Heap) (k : Nat) : Prop where
  p : X.prog = P
  w : X.w = w
  K : X.K = K
  mg : X.mg = mg
  b : X.base = base
  r : Room k X.A
  g : X.A.guards = some []
theorem InD.mono {X : Cx} {P : Program} {w : World} {K : PySem.W.Frag} {mg : Str → Option Value} {base : Heap} {j k : Nat} (h : InD X P w K mg base k) (l : j ≤ k) : InD X P w K mg base j := ⟨h.p, h.w, h.K, h.mg, h.b, h.r.mono l, h.g⟩
theorem room_u {A : Around} {k : Nat} (r : Room k A) : A.units + 65 < cLine := by have := r.un; omega
theorem room_u64 {A : Around} {k : Nat} (r : Room k A) : A.units + 64 < cLine := by have := r.un; omega
theorem room_u0 {A : Around} {k : Nat} (r : Room k A) : A.units < cLine := by have := r.un; omega
/-- all parameters by name -/
def Kw (K : PySem.W.Frag) (fd : FuncData) (ps : List Str) : Prop := ∀ (s : Shared) (us : List Value), K.In s.heap → us.length = ps.length → BindsTo s fd ⟨[], ps.zip us⟩ (ps.zip us)
/-- a def that stands behind the top and keeps its contract -/
structure Df (P : Program) (w : World) (K : PySem.W.Frag) (mg : Str → Option Value) (base : Heap) (lv : Nat) (x : Str) (ps : List Str) (sp : BSp) : Prop where
  ex : ∃ f fd, FnB P w K mg base lv f fd ps sp ∧ mg x = some (.ref f) ∧ PySem.W.keepIn K (.ref f) = true ∧ Binds K fd ps [] ∧ Kw K fd ps
theorem Df.cal {P : Program} {w : World} {K : PySem.W.Frag} {mg : Str → Option Value} {base : Heap} {lv : Nat} {x : Str} {ps : List Str} {sp : BSp} (D : Df P w K mg base lv x ps sp) {X : Cx} (I : InD X P w K mg base lv) : Cal X x ps [] sp := by
  obtain ⟨rfl, rfl, rfl, rfl, rfl, r, g⟩ := I
  obtain ⟨f, fd, F, m, k, b, _⟩ := D.ex
  exact ⟨⟨lv, f, fd, F, r, m, k, b⟩, g⟩
end Bs
set_option maxHeartbeats 2000000
namespace Bs
open PySem PySem.Spec PyProof.Rows L2
/-- built-ins that no module hides -/
def NoSh (mg : Str → Option Value) : Prop := ∀ x ∈ (["len", "all", "any", "int", "list", "tuple", "range", "zip", "repr", "sum", "min", "max", "str", "sorted", "abs"] : List Str), mg x = none
/-- a def behind the top -/
structure Has (K : PySem.W.Frag) (mg : Str → Option Value) (x : Str) (st : Stmt) (ps : List Str) : Prop where
  ex : ∃ f fd, L2.Fun K x x st f fd ∧ mg x = some (.ref f) ∧ PySem.W.keepIn K (.ref f) = true ∧ Binds K fd ps [] ∧ Kw K fd ps
theorem Has.df {P : Program} {w : World} {K : PySem.W.Frag} {mg : Str → Option Value} {base : Heap} {x : Str} {st : Stmt} {N ps : List Str} {k : Nat} {sp : BSp} (h : Has K mg x st ps) (S : FnScope N ps (defScope st)) (len : ∀ as R Y, sp as R Y → as.length = ps.length)
    (hbody : ∀ (f : Addr) (cdv : Value) (A : Around) (outer : List Env) (s : Shared) (H : Hp) (E : XK), InD (cxOf (L2.CX P w) P w K mg base N x (defScope st) f cdv A outer s H E) P w K mg base k → ∀ (as : Rho) (R : Rv → Rho → Prop) (Y : WY), sp as R Y →
      WS (cxOf (L2.CX P w) P w K mg base N x (defScope st) f cdv A outer s H E) (yB as Y) (defBody st) (start0 N.length as) (edB as R)) : Df P w K mg base (k + 1) x ps sp := by
  obtain ⟨f, fd, F, m, kp, b⟩ := h.ex
  exact ⟨f, fd, def_ok F S len fun cdv A outer s H E hr hg => hbody f cdv A outer s H E ⟨rfl, rfl, rfl, rfl, rfl, hr, hg⟩, m, kp, b⟩
theorem Df.mono {P : Program} {w : World} {K : PySem.W.Frag} {mg : Str → Option Value} {base : Heap} {j k : Nat} {x : Str} {ps : List Str} {sp : BSp} (D : Df P w K mg base j x ps sp) (l : j ≤ k) : Df P w K mg base k x ps sp := by
  obtain ⟨f, fd, F, m, kp, b⟩ := D.ex
  exact ⟨f, fd, F.mono l, m, kp, b⟩
theorem InD.blk {X : Cx} {P : Program} {w : World} {K : PySem.W.Frag} {mg : Str → Option Value} {base : Heap} {k : Nat} (I : InD X P w K mg base k) {s0 : Shared} {H0 : Hp} {sc : Scope} {ce : Env} {fp : List Addr} (hr : Room k (X.blk s0 H0 sc ce fp).A) (hg : (X.blk s0 H0 sc ce fp).A.guards = some []) : InD (X.blk s0 H0 sc ce fp) P w K mg base k := ⟨I.p, I.w, I.K, I.mg, I.b, hr, hg⟩
/-- a name of a module that holds data -/
theorem we_glob {X : Cx} {Y : WY} {ρ : Rho} {R : Rv → Rho → Prop} {x : Str} {pos : Pos} {v : V} {u : Value} {d : PyData} (hg : Gl X x) (hm : X.mg x = some u) (r : RelV v u) (hd : (x == ("__debug__" : Str)) = false) (hv : ∀ B, Dp X.K B v d) (h : R (.d d) ρ) : WE X Y (.Name x pos) ρ R :=
  WE.of (pe_glob hg hm r hd) fun σ H B Q Wx _ rl q _ => q.here rl (hv B) h
theorem we_globS {X : Cx} {Y : WY} {ρ : Rho} {R : Rv → Rho → Prop} {x : Str} {pos : Pos} {z : Str} (hm : ∃ t, X.mg x = some (.str z t)) (hg : Gl X x) (hd : (x == ("__debug__" : Str)) = false) (h : R (.d (.str z)) ρ) : WE X Y (.Name x pos) ρ R := by
  obtain ⟨t, hm⟩ := hm
  exact we_glob (v := .str z) hg hm ⟨t, rfl⟩ hd (fun B => .str z) h
theorem we_globI {X : Cx} {Y : WY} {ρ : Rho} {R : Rv → Rho → Prop} {x : Str} {pos : Pos} {z : Int} (hm : ∃ t, X.mg x = some (.int z t)) (hg : Gl X x) (hd : (x == ("__debug__" : Str)) = false) (h : R (.d (.int z)) ρ) : WE X Y (.Name x pos) ρ R := by
  obtain ⟨t, hm⟩ := hm
  exact we_glob (v := .int z) hg hm ⟨t, rfl⟩ hd (fun B => .int z) h
/-- a statement that is not come to -/
theorem w1_never {X : Cx} {Y : WY} {st : Stmt} {ρ : Rho} {D : Ed} (h : False) : W1 X Y st ρ D := h.elim
theorem ws_never {X : Cx} {Y : WY} {st : List Stmt} {ρ : Rho} {D : Ed} (h : False) : WS X Y st ρ D := h.elim
/-! ### names of classes -/
def isTup : PyData → Bool
  | .tuple _ => true
  | _ => false
def isInt : PyData → Bool
  | .int _ => true
  | _ => false
def isStr : PyData → Bool
  | .str _ => true
  | _ => false
theorem shp_ty : ∀ d : PyData, Shp (.str (Str.ofString (tyN d)))
  | .none => (by decide +kernel : Shp (.str (Str.ofString "NoneType")))
  | .bool _ => (by decide +kernel : Shp (.str (Str.ofString "bool")))
  | .int _ => (by decide +kernel : Shp (.str (Str.ofString "int")))
  | .str _ => (by decide +kernel : Shp (.str (Str.ofString "str")))
  | .list _ => (by decide +kernel : Shp (.str (Str.ofString "list")))
  | .tuple _ => (by decide +kernel : Shp (.str (Str.ofString "tuple")))
  | .dict _ => (by decide +kernel : Shp (.str (Str.ofString "dict")))
theorem eqv_tup : ∀ d : PyData, PyData.eqv (.str (Str.ofString (tyN d))) (.str "tuple") = isTup d
  | .none => (by decide +kernel : PyData.eqv (.str (Str.ofString "NoneType")) (.str "tuple") = false)
  | .bool _ => (by decide +kernel : PyData.eqv (.str (Str.ofString "bool")) (.str "tuple") = false)
  | .int _ => (by decide +kernel : PyData.eqv (.str (Str.ofString "int")) (.str "tuple") = false)
  | .str _ => (by decide +kernel : PyData.eqv (.str (Str.ofString "str")) (.str "tuple") = false)
  | .list _ => (by decide +kernel : PyData.eqv (.str (Str.ofString "list")) (.str "tuple") = false)
  | .tuple _ => (by decide +kernel : PyData.eqv (.str (Str.ofString "tuple")) (.str "tuple") = true)
  | .dict _ => (by decide +kernel : PyData.eqv (.str (Str.ofString "dict")) (.str "tuple") = false)
theorem eqv_int : ∀ d : PyData, PyData.eqv (.str (Str.ofString (tyN d))) (.str "int") = isInt d
  | .none => (by decide +kernel : PyData.eqv (.str (Str.ofString "NoneType")) (.str "int") = false)
  | .bool _ => (by decide +kernel : PyData.eqv (.str (Str.ofString "bool")) (.str "int") = false)
  | .int _ => (by decide +kernel : PyData.eqv (.str (Str.ofString "int")) (.str "int") = true)
  | .str _ => (by decide +kernel : PyData.eqv (.str (Str.ofString "str")) (.str "int") = false)
  | .list _ => (by decide +kernel : PyData.eqv (.str (Str.ofString "list")) (.str "int") = false)
  | .tuple _ => (by decide +kernel : PyData.eqv (.str (Str.ofString "tuple")) (.str "int") = false)
  | .dict _ => (by decide +kernel : PyData.eqv (.str (Str.ofString "dict")) (.str "int") = false)
theorem eqv_str : ∀ d : PyData, PyData.eqv (.str (Str.ofString (tyN d))) (.str "str") = isStr d
  | .none => (by decide +kernel : PyData.eqv (.str (Str.ofString "NoneType")) (.str "str") = false)
  | .bool _ => (by decide +kernel : PyData.eqv (.str (Str.ofString "bool")) (.str "str") = false)
  | .int _ => (by decide +kernel : PyData.eqv (.str (Str.ofString "int")) (.str "str") = false)
  | .str _ => (by decide +kernel : PyData.eqv (.str (Str.ofString "str")) (.str "str") = true)
  | .list _ => (by decide +kernel : PyData.eqv (.str (Str.ofString "list")) (.str "str") = false)
  | .tuple _ => (by decide +kernel : PyData.eqv (.str (Str.ofString "tuple")) (.str "str") = false)
  | .dict _ => (by decide +kernel : PyData.eqv (.str (Str.ofString "dict")) (.str "str") = false)
theorem SEq.of {d e : PyData} {b : Bool} (h1 : Shp d) (h2 : Shp e) (h : PyData.eqv d e = b) : SEq d e (.d (.bool b)) := h ▸ .mk d e h1 h2
theorem SNe.of {d e : PyData} {b : Bool} (h1 : Shp d) (h2 : Shp e) (h : PyData.eqv d e = b) : SNe d e (.d (.bool (!b))) := h ▸ .mk d e h1 h2
end Bs
namespace Bs
def NB : List Rv → Prop
  | [] => True
  | r :: rs => r.nob ∧ NB rs
theorem nb_of : ∀ {rs : List Rv}, NB rs → ∀ r ∈ rs, r.nob
  | _ :: _, ⟨h, _⟩, _, .head _ => h
  | _ :: _, ⟨_, t⟩, r, .tail _ m => nb_of t r m
end Bs
set_option maxHeartbeats 2000000
namespace Bs
open PySem PySem.Spec PyProof.Rows L2
theorem shp_int (i : Int) : Shp (.int i) := by unfold Shp SeqAt.shaped; simp [PyData.canLay0, PyData.depth]
theorem shp_bool (i : Bool) : Shp (.bool i) := by unfold Shp SeqAt.shaped; simp [PyData.canLay0, PyData.depth]
theorem shp_none : Shp .none := by unfold Shp SeqAt.shaped; simp [PyData.canLay0, PyData.depth]
theorem eqv_ii (i j : Int) : PyData.eqv (.int i) (.int j) = decide (i = j) := by
  unfold PyData.eqv
  rw [Bool.eq_iff_iff]
  simp
/-- ints compared -/
theorem SNe.int (i j : Int) : SNe (.int i) (.int j) (.d (.bool (!decide (i = j)))) := .of (shp_int i) (shp_int j) (eqv_ii i j)
theorem SEq.int (i j : Int) : SEq (.int i) (.int j) (.d (.bool (decide (i = j)))) := .of (shp_int i) (shp_int j) (eqv_ii i j)
theorem isInt_true {d : PyData} (h : isInt d = true) : ∃ i, d = .int i := by
  cases d <;> first | exact ⟨_, rfl⟩ | cases h
theorem isTup_true {d : PyData} (h : isTup d = true) : ∃ i, d = .tuple i := by
  cases d <;> first | exact ⟨_, rfl⟩ | cases h
theorem isStr_true {d : PyData} (h : isStr d = true) : ∃ i, d = .str i := by
  cases d <;> first | exact ⟨_, rfl⟩ | cases h
theorem two_of {ds : List PyData} (h : (ds.length : Int) = 2) : ∃ x y, ds = [x, y] := by
  match ds, h with
  | [x, y], _ => exact ⟨x, y, rfl⟩
  | [], h => simp at h
  | [_], h => simp at h
  | _ :: _ :: _ :: _, h => simp only [List.length_cons] at h; omega
theorem not_false' {b : Bool} (h : (!b) = false) : b = true := by cases b <;> first | rfl | cases h
theorem not_true' {b : Bool} (h : (!b) = true) : b = false := by cases b <;> first | rfl | cases h
end Bs
namespace Bs
open PySem PySem.Spec PyProof.Rows L2
theorem InD.blk' {X : Cx} {P : Program} {w : World} {K : PySem.W.Frag} {mg : Str → Option Value} {base : Heap} {k : Nat} (I : InD X P w K mg base k) {s0 : Shared} {H0 : Hp} {sc : Scope} {ce : Env} {fp : List Addr} : InD (X.blk s0 H0 sc ce fp) P w K mg base k := ⟨I.p, I.w, I.K, I.mg, I.b, I.r, I.g⟩
def intOf : PyData → Int
  | .int i => i
  | _ => 0
theorem intOf_ints (ns : List Int) : (intsD ns).map intOf = ns := by
  unfold intsD
  rw [List.map_map]
  induction ns with
  | nil => rfl
  | cons n ns ih => rw [List.map_cons, ih]; rfl
def ltT : PyData → PyData → Bool
  | .tuple a, .tuple b => HT.lexLt (a.map intOf) (b.map intOf)
  | _, _ => false
theorem ltT_ints (a b : List Int) : ltT (.tuple (intsD a)) (.tuple (intsD b)) = HT.lexLt a b := by
  show HT.lexLt ((intsD a).map intOf) ((intsD b).map intOf) = _
  rw [intOf_ints, intOf_ints]
theorem SLtT.of {ns ms : List Int} : SLtT (.tuple (intsD ns)) (.tuple (intsD ms)) (.d (.bool (ltT (.tuple (intsD ns)) (.tuple (intsD ms))))) := by
  rw [ltT_ints]; exact .mk ns ms
theorem cutD_1 (ds : List PyData) : cutD ds (some 1) none = ds.drop 1 := by
  have e : HT.sIx ds.length 0 (some 1) = min 1 ds.length := HT.sIx_nat _ _ 1
  unfold cutD
  rw [e, HT.sIx_none]
  cases ds with
  | nil => rfl
  | cons d ds =>
    rw [Nat.min_eq_left (by rw [List.length_cons]; omega)]
    rw [List.take_of_length_le (by rw [List.length_drop]; omega)]
def IntsT (d : PyData) : Prop := ∃ ns, d = .tuple (intsD ns)
theorem zipD_mem {xs ys : List PyData} {d : PyData} (h : d ∈ zipD xs ys) : ∃ x y, x ∈ xs ∧ y ∈ ys ∧ d = .tuple [x, y] := by
  unfold zipD at h
  induction xs generalizing ys with
  | nil => simp at h
  | cons a xs ih =>
    cases ys with
    | nil => simp at h
    | cons b ys =>
      rw [List.zipWith_cons_cons] at h
      rcases List.mem_cons.mp h with e | h
      · exact ⟨a, b, List.mem_cons_self, List.mem_cons_self, e⟩
      · obtain ⟨x, y, hx, hy, e⟩ := ih h
        exact ⟨x, y, List.mem_cons_of_mem _ hx, List.mem_cons_of_mem _ hy, e⟩
def asc (ds : List PyData) : Bool := (List.zipWith ltT ds (ds.drop 1)).all id
def ltP : PyData → PyData
  | .tuple [x, y] => .bool (ltT x y)
  | _ => .none
theorem zip_ltP (xs ys : List PyData) : (zipD xs ys).map ltP = boolsD (List.zipWith ltT xs ys) := by
  unfold zipD boolsD
  rw [List.map_zipWith, List.map_zipWith]
  rfl
end Bs
namespace Bs
open PySem PySem.Spec PyProof.Rows L2
theorem blk_cx {CX : CXT} {P : Program} {w : World} {K : PySem.W.Frag} {mg : Str → Option Value} {base : Heap} {N : List Str} {qual : Str} {st : Stmt} {f : Addr} {cdv : Value} {A : Around} {outer : List Env} {s : Shared} {H : Hp} {E : XK} {sc : Scope} {own : List (Str × Nat)} (h : blkC N (defScope st) sc own = true) :
    BlkOk (cxOf CX P w K mg base N qual (defScope st) f cdv A outer s H E).N (cxOf CX P w K mg base N qual (defScope st) f cdv A outer s H E).env.scope sc own := blkOk_by h
end Bs
namespace Bs
open PySem PySem.Spec PyProof.Rows L2
/-- an exception class without fields of its own -/
structure ExD (K : PySem.W.Frag) (mg : Str → Option Value) (x : Str) (C : Addr) : Prop where
  ei : PySem.W.excIn K C [.type "ValueError", .type "Exception", .type "BaseException", .type "object"] "ValueError.__new__" = true
  gC : mg x = some (.ref C)
  kC : PySem.W.keepIn K (.ref C) = true
  bC : PySem.W.subIn K (.ref C) (.type "BaseException") = some true
  tC : PySem.W.typeIn K (.ref C) = some (.type "type")
theorem ExD.at {K : PySem.W.Frag} {mg : Str → Option Value} {x : Str} {C : Addr} (e : ExD K mg x C) {X : Cx} {P : Program} {w : World} {base : Heap} {k : Nat} (I : InD X P w K mg base k) : ExC X x C := by
  obtain ⟨_, _, rfl, rfl, _, _, _⟩ := I
  exact ⟨e.ei, e.gC, e.kC, e.bC, e.tC⟩
end Bs
set_option maxHeartbeats 2000000
namespace Bs
open PySem PySem.Spec PyProof.Rows L2
/-! ### name += int -/
section
variable {X : Cx} {Y : WY} {ρ : Rho} {D : Ed} {e : Expr} {pos pos' : Pos} {x : Str} {op : Operator}
theorem w1_aug (i : Nat) (v0 : Int) {f : Int → Int → Int} (hN : X.N.Nodup) (hi : X.N[i]? = some x) (hx : Loc X.env.scope x) (ho : PIp X op (ipI f)) (hf : X.fn x = true ∨ X.env.scope.names.lookup x = some .local) (h0 : ρ[i]? = some (.dat (.int v0)))
    (h : WE X Y e ρ fun r ρ1 => ∃ j, r.dt = .int j ∧ D.nx (ρ1.set i (.dat (.int (f v0 j))))) : W1 X Y (.AugAssign (.Name x pos') op e pos) ρ D :=
  W1.of (ps_aug hN hi hx pe_sE ho hf) fun σ H B C Wx tk rl q y => by
    have hil : i < σ.length := by rw [← rl.len]; exact (List.getElem?_eq_some_iff.mp h0).1
    obtain ⟨v, ev, dv⟩ := rl.sl i _ _ h0 (List.getElem?_eq_getElem hil)
    have dv : v = .int v0 := by cases dv with | int i => rfl
    subst dv
    refine ⟨.int v0, (List.getElem?_eq_getElem hil).trans (congrArg some ev), ?_⟩
    refine h.run tk rl (fun v r B1 ρ1 H1 g1 rl1 vo hp => ?_) y
    obtain ⟨j, ej, hd⟩ := hp
    have w := vo.vw rl1
    rw [ej] at w
    refine ⟨v0, j, rfl, w.int, ?_⟩
    exact q.nx _ B1 _ H1 (List.length_set) (g1.setD nod) (rl1.setD (.int _)) hd
end
/-! ### [elt for .. for ..], pure -/
/-- the list in the making stands at D -/
def TD (K : PySem.W.Frag) (D : Addr) (B1 H1 : Hp) (ρv ρ : Rho) (σ : L2.St) (acc : List PyData) (H' : Hp) : Prop :=
  ∃ B' accV, Go B1 (.own D [] :: ρv) (upd H1 D (.lst [])) B' ρ H' ∧ Rel K B' ρ σ H' ∧ H' D = some (.lst accV) ∧ B' D = none ∧ D ∉ owns ρ ∧ DpAll K B' accV acc
def sAb (X : Cx) (sc : Scope) (es : List Expr) : TA := fun σ H Q => ∀ s0 H0 C cl fp, sA (X.blk s0 H0 sc (compEnvC sc cl C X.env) fp) es σ H Q
theorem pab {X : Cx} {sc : Scope} {es : List Expr} {s : Shared} {H : Hp} {C : Addr} {cl : List (Str × Addr)} {fp : List Addr} : PA (X.blk s H sc (compEnvC sc cl C X.env) fp) es (sAb X sc es) := ⟨fun pos pins s' σ H' Q I h => h s H C cl fp pos pins s' I⟩
/-- the inner walk, at ρ2: it yields es and changes nothing -/
def WIp (X : Cx) (wi : TI) (ρ2 : Rho) (es : List PyData) : Prop := ∀ (σ : L2.St) (H B : Hp) (R : It → Hp → Prop), Rel X.K B ρ2 σ H → (∀ J B1 H1, Go B ρ2 H B1 ρ2 H1 → Rel X.K B1 ρ2 σ H1 → Yld X.K B1 J es → R J H1) → wi σ H R
section
variable {X : Cx} {Y : WY} {ρ : Rho} {R : Rv → Rho → Prop} {elt a b : Expr} {sc : Scope}
theorem wip_rng2 {ρ2 : Rho} {es : List PyData} (h : ∀ s0 H0 C cl fp, WA (X.blk s0 H0 sc (compEnvC sc cl C X.env) fp) yNo [a, b] ρ2 fun rs ρ3 => ρ3 = ρ2 ∧ ∃ l j : Int, rs = [.d (.int l), .d (.int j)] ∧ l.natAbs < 1000000 ∧ j.natAbs < 1000000 ∧ es = rngD l (j - l).toNat) : WIp X (iRng2 (sAb X sc [a, b])) ρ2 es := fun σ H B R rl q => fun s0 H0 C cl fp =>
  h s0 H0 C cl fp σ H B _ (fun _ _ _ _ => False) takesNo rl (fun vs rs B1 ρ1 H1 g1 rl1 vo _ hk => by
    obtain ⟨e1, l, j, rfl, hl, hj, e2⟩ := hk
    subst e1 e2
    cases vo with
    | @cons v _ _ _ xo t =>
      cases t with
      | @cons w _ _ _ xo2 t =>
        cases t
        have xo : Dp X.K B1 v (.int l) := xo
        have xo2 : Dp X.K B1 w (.int j) := xo2
        cases xo
        cases xo2
        exact ⟨l, j, rfl, by omega, q _ B1 H1 g1 rl1 (yld_rng l (j - l).toNat)⟩) (fun _ _ _ _ _ _ _ _ _ _ _ _ z => z.elim)
theorem lc2_pure {wi wi1 : TI} {g g1 : L2.Cx → TG} {S S1 : PyData → Rho → Rho → Prop} {is is1 vs vs1 : List Nat} (hS : TgI is g S) (hsub : ∀ i ∈ is, i ∈ vs) (hS1 : TgI is1 g1 S1) (hsub1 : ∀ i ∈ is1, i ∈ vs1) (hvs : ∀ i ∈ vs1, i ∈ vs)
    {σ : L2.St} {H : Hp} {Q : VK} {Wx : WX} {B : Hp} (tk : Takes X Wx) (rl : Rel X.K B ρ σ H) (q : Vw' X R Q σ B ρ H) (z : Xw X Y Wx σ B ρ H)
    (h : WI X Y wi ρ fun ds ρ1 => ds.length < 1000 ∧ ∃ (E : PyData → List PyData) (f : PyData → PyData → PyData), wipeR (wipeR ρ1 vs) vs = wipeR ρ1 vs ∧
      (∀ d ∈ ds, (E d).length < 1000 ∧ ∃ ρ2, S d (wipeR ρ1 vs) ρ2 ∧ wipeR (wipeR ρ2 vs1) vs = wipeR ρ1 vs ∧ WIp X wi1 ρ2 (E d) ∧ ∀ e ∈ E d, ∃ ρ3, S1 e (wipeR ρ2 vs1) ρ3 ∧ wipeR ρ3 vs1 = wipeR ρ2 vs1 ∧ WEb X sc elt ρ3 fun r ρ5 => r = .d (f d e) ∧ ρ5 = ρ3) ∧
      R (.n (ds.flatMap fun d => (E d).map (f d))) (wipeR ρ1 vs)) : tLc2 wi (g X) tYes wi1 (g1 X) tYes (sEb X sc elt) vs vs1 σ H Q := by
  refine h σ H B _ Wx tk rl (fun ds J B1 ρ1 H1 g1' rl1 yl hk D hD => ?_) z
  obtain ⟨hlen, E, f, hww, hstep, hend⟩ := hk
  have hDB : B1 D = none := none_up rl1.up hD
  have hDo : D ∉ owns (wipeR ρ1 vs) := fun w => by
    obtain ⟨_, ws, q⟩ := rl1.own_there (owns_wipe w)
    rw [hD] at q; cases q
  -- how long the list may get
  have cap : ∀ i, ((ds.take i).flatMap fun d => (E d).map (f d)).length ≤ i * 1000 := fun i => by
    induction i with
    | zero => simp
    | succ i ih =>
      rw [List.take_add_one, List.flatMap_append, List.length_append]
      cases e : ds[i]? with
      | none =>
        simp only [Option.toList_none, List.flatMap_nil, List.length_nil]
        omega
      | some d =>
        have := (hstep d (List.mem_of_getElem? e)).1
        simp only [Option.toList_some, List.flatMap_cons, List.flatMap_nil, List.append_nil, List.length_map]
        omega
  refine ⟨fun i m H' => m = ds.length - i ∧ i ≤ ds.length ∧ TD X.K D B1 H1 (wipeR ρ1 vs) (wipeR ρ1 vs) (L2.wipe σ vs) ((ds.take i).flatMap fun d => (E d).map (f d)) H', ?_, ?_⟩
  · refine ⟨ds.length, by simp, Nat.zero_le _, B1, [], ⟨Up.rfl' _, fun _ _ h _ => h, fun _ _ _ h => h, fun p hp => .inl (List.mem_cons_of_mem _ hp), fun _ h => h⟩, (rl1.wipe (σ' := L2.wipe σ vs) (wipe_length σ vs) fun j hj => wipe_get hj).put hD, upd_same, hDB, hDo, .nil⟩
  · rintro i m H' ⟨rfl, hi, B', accV, g', rl', hDH, hDB', _, da⟩
    have u1 : Up B1 B' := g'.gr
    by_cases hlt : i < ds.length
    · have hget := List.getElem?_eq_getElem hlt
      obtain ⟨hgo, hy⟩ := yl.turn i ds[i] B' H' u1 rl'.up hget
      obtain ⟨hElen, ρ2, hs2, hw2, hwi, hel⟩ := hstep ds[i] (List.mem_of_getElem? hget)
      have tk1 : (ds.take (i + 1)).flatMap (fun d => (E d).map (f d)) = (ds.take i).flatMap (fun d => (E d).map (f d)) ++ (E ds[i]).map (f ds[i]) := by
        rw [List.take_add_one, hget, List.flatMap_append]
        simp
      refine .inr ⟨hgo, fun H'' => TD X.K D B1 H1 (wipeR ρ1 vs) (wipeR ρ1 vs) (L2.wipe σ vs) ((ds.take (i + 1)).flatMap fun d => (E d).map (f d)) H'', fun H'' w => ⟨ds.length - (i + 1), by omega, rfl, hlt, w⟩, fun x H'' yy => ?_⟩
      obtain ⟨B2, mk⟩ := hy x H'' yy
      obtain ⟨g2, rl2, vo2⟩ := mk.go g' rl'
      obtain ⟨g2', _, _⟩ := mk.go (Go.refl B' (wipeR ρ1 vs) H') rl'
      have hnH : H' D ≠ none := by rw [hDH]; exact fun w => nomatch w
      have hDH2 : H'' D = some (.lst accV) := g2'.fm D _ hDo hDH
      have hDB2 : B2 D = none := g2'.fr D hDo hDB' hnH
      refine hS X B2 H'' _ ρ2 (L2.wipe σ vs) x ds[i] _ rl2 vo2 hs2 fun σ2 l2 f2 rlS o2 => ?_
      have wq : L2.wipe σ2 vs = L2.wipe σ vs := by
        refine wipe_eq (l2.trans (wipe_length σ vs)) fun j hj => ?_
        rw [f2 j (fun w => hj (hsub j w)), wipe_get hj]
      refine ⟨wq, ?_⟩
      show wi1 σ2 H'' _
      have hDo2 : D ∉ owns ρ2 := fun w => hDo (o2 D w)
      have gS : Go B1 (.own D [] :: wipeR ρ1 vs) (upd H1 D (.lst [])) B2 ρ2 H'' := ⟨g2.gr, g2.fr, g2.fm, fun p hp => g2.ow p (o2 p hp), g2.th⟩
      refine hwi σ2 H'' B2 _ rlS fun J1 B3 H3 g3 rl3 yl1 => ?_
      have hnH2 : H'' D ≠ none := by rw [hDH2]; exact fun w => nomatch w
      have hDH3 : H3 D = some (.lst accV) := g3.fm D _ hDo2 hDH2
      have hDB3 : B3 D = none := g3.fr D hDo2 hDB2 hnH2
      have hDo3 : D ∉ owns (wipeR ρ2 vs1) := fun w => hDo2 (owns_wipe w)
      have gT := (gS.trans g3).wipe (vs := vs1)
      have rlT : Rel X.K B3 (wipeR ρ2 vs1) (L2.wipe σ2 vs1) H3 := rl3.wipe (σ' := L2.wipe σ2 vs1) (wipe_length σ2 vs1) fun j hj => wipe_get hj
      refine ⟨fun j k Hj => k = (E ds[i]).length - j ∧ j ≤ (E ds[i]).length ∧ ∃ B4, Up B3 B4 ∧ ∃ accV, Go B1 (.own D [] :: wipeR ρ1 vs) (upd H1 D (.lst [])) B4 (wipeR ρ2 vs1) Hj ∧ Rel X.K B4 (wipeR ρ2 vs1) (L2.wipe σ2 vs1) Hj ∧ Hj D = some (.lst accV) ∧ B4 D = none ∧ DpAll X.K B4 accV ((ds.take i).flatMap (fun d => (E d).map (f d)) ++ ((E ds[i]).take j).map (f ds[i])), ?_, ?_⟩
      · refine ⟨(E ds[i]).length, by simp, Nat.zero_le _, B3, Up.rfl' _, accV, gT, rlT, hDH3, hDB3, ?_⟩
        rw [List.take_zero, List.map_nil, List.append_nil]
        exact DpAll.up (g2'.gr.trans g3.gr) da
      · rintro j k Hj ⟨rfl, hj, B4, u34, accW, g4, rl4, hDH4, hDB4, da4⟩
        by_cases hjl : j < (E ds[i]).length
        · have hgj := List.getElem?_eq_getElem hjl
          obtain ⟨hgo1, hy1⟩ := yl1.turn j (E ds[i])[j] B4 Hj u34 rl4.up hgj
          obtain ⟨ρ3, hs3, hw3, hE⟩ := hel (E ds[i])[j] (List.mem_of_getElem? hgj)
          refine .inr ⟨hgo1, fun Hn => ∃ B4, Up B3 B4 ∧ ∃ accV, Go B1 (.own D [] :: wipeR ρ1 vs) (upd H1 D (.lst [])) B4 (wipeR ρ2 vs1) Hn ∧ Rel X.K B4 (wipeR ρ2 vs1) (L2.wipe σ2 vs1) Hn ∧ Hn D = some (.lst accV) ∧ B4 D = none ∧ DpAll X.K B4 accV ((ds.take i).flatMap (fun d => (E d).map (f d)) ++ ((E ds[i]).take (j + 1)).map (f ds[i])), fun Hn w => ⟨(E ds[i]).length - (j + 1), by omega, rfl, hjl, w⟩, fun y Hy yy1 => ?_⟩
          obtain ⟨B5, mk1⟩ := hy1 y Hy yy1
          obtain ⟨g5, rl5, vo5⟩ := mk1.go g4 rl4
          obtain ⟨g5', _, _⟩ := mk1.go (Go.refl B4 (wipeR ρ2 vs1) Hj) rl4
          have hn4 : Hj D ≠ none := by rw [hDH4]; exact fun w => nomatch w
          have hDH5 : Hy D = some (.lst accW) := g5'.fm D _ hDo3 hDH4
          have hDB5 : B5 D = none := g5'.fr D hDo3 hDB4 hn4
          refine hS1 X B5 Hy _ ρ3 (L2.wipe σ2 vs1) y (E ds[i])[j] _ rl5 vo5 hs3 fun σ3 l3 f3 rlU o3 => ?_
          have wq1 : L2.wipe σ3 vs1 = L2.wipe σ2 vs1 := by
            refine wipe_eq (l3.trans (wipe_length σ2 vs1)) fun j hj => ?_
            rw [f3 j (fun w => hj (hsub1 j w)), wipe_get hj]
          refine ⟨wq1, ?_⟩
          show sEb X sc elt σ3 Hy _
          have hDo5 : D ∉ owns ρ3 := fun w => hDo3 (o3 D w)
          have gU : Go B1 (.own D [] :: wipeR ρ1 vs) (upd H1 D (.lst [])) B5 ρ3 Hy := ⟨g5.gr, g5.fr, g5.fm, fun p hp => g5.ow p (o3 p hp), g5.th⟩
          refine hE.go rlU fun v r B6 ρ6 H6 g6 rl6 vo6 hr => ?_
          obtain ⟨er, e6⟩ := hr
          subst er e6
          have vo6 : Dp X.K B6 v (f ds[i] (E ds[i])[j]) := vo6
          have hn5 : Hy D ≠ none := by rw [hDH5]; exact fun w => nomatch w
          have hDH6 : H6 D = some (.lst accW) := g6.fm D _ hDo5 hDH5
          have hDB6 : B6 D = none := g6.fr D hDo5 hDB5 hn5
          have accLen := DpAll.len da4
          have hcap := cap i
          refine ⟨accW, hDH6, ?_, B6, u34.trans (g5'.gr.trans g6.gr), accW ++ [v], ?_, ?_, upd_same, hDB6, ?_⟩
          · rw [accLen, List.length_append, List.length_map, List.length_take]
            have : min j (E ds[i]).length ≤ 1000 := by omega
            have h3 : i * 1000 ≤ 1000 * 1000 := Nat.mul_le_mul_right _ (by omega)
            exact Nat.lt_of_le_of_lt (show _ ≤ 1001000 by omega) (by decide)
          · have gg := (gU.trans g6).wipe (vs := vs1)
            rw [hw3] at gg
            refine ⟨gg.gr, gg.fr, fun a o h1 h2 => ?_, gg.ow, fun a h => ?_⟩
            · have ne : a ≠ D := fun w => h1 (by rw [w]; exact List.mem_cons_self)
              exact (upd_ne ne).trans (gg.fm a o h1 h2)
            · by_cases ea : a = D
              · rw [ea, upd_same]; exact fun w => nomatch w
              · rw [upd_ne ea]; exact gg.th a h
          · have r7 : Rel X.K B6 (wipeR ρ6 vs1) (L2.wipe σ2 vs1) H6 := by
              refine rl6.wipe (by rw [wipe_length, l3, wipe_length]) fun j hj => ?_
              rw [← wq1, wipe_get hj]
            rw [hw3] at r7
            exact r7.other hDB6 hDo3
          · have e8 : (E ds[i]).take (j + 1) = (E ds[i]).take j ++ [(E ds[i])[j]] := by rw [List.take_add_one, hgj]; rfl
            rw [e8, List.map_append, ← List.append_assoc]
            exact DpAll.app (DpAll.up (g5'.gr.trans g6.gr) da4) (DpAll.one vo6)
        · have ej : j = (E ds[i]).length := by omega
          subst ej
          refine .inl ⟨yl1.stop B4 Hj u34 rl4.up, ?_⟩
          rw [List.take_length, ← tk1] at da4
          refine ⟨B4, accW, ?_, ?_, hDH4, hDB4, hDo, da4⟩
          · have gg := g4.wipe (vs := vs)
            rw [hw2] at gg
            exact gg
          · have r7 : Rel X.K B4 (wipeR (wipeR ρ2 vs1) vs) (L2.wipe σ vs) Hj := by
              refine rl4.wipe (by rw [wipe_length, wipe_length, l2, wipe_length]) fun j hj => ?_
              have hj1 : j ∉ vs1 := fun w => hj (hvs j w)
              rw [wipe_get hj1, f2 j fun w => hj (hsub j w)]
            rw [hw2] at r7
            exact r7
    · have e : i = ds.length := by omega
      subst e
      refine .inl ⟨yl.stop B' H' u1 rl'.up, ?_⟩
      rw [List.take_length] at da
      have h0 : H D = none := by
        cases eh : H D with
        | none => rfl
        | some o => exact absurd hD (g1'.th D (by rw [eh]; exact fun w => nomatch w))
      have g0 : Go B ρ H B1 (.own D [] :: wipeR ρ1 vs) (upd H1 D (.lst [])) := by
        have gp := (Go.wipe (vs := vs) g1').put (o := .lst []) hD
        exact ⟨gp.gr, gp.fr, gp.fm, fun p hp => (List.mem_cons.mp (show p ∈ D :: owns (wipeR ρ1 vs) from hp)).elim (fun w => .inr (by rw [w]; exact h0)) (gp.ow p), gp.th⟩
      have rlE : Rel X.K B' (wipeR ρ1 vs) σ H' := by
        have w := rl'.wipe (vs := vs) (σ' := σ) (wipe_length σ vs).symm fun j hj => (wipe_get hj).symm
        rw [hww] at w
        exact w
      exact q (.ref D) (.n _) B' _ H' (g0.trans g') rlE ⟨D, accV, rfl, h0, hDB', hDo, hDH, da⟩ hend
end
section
variable {X : Cx} {Y : WY} {ρ : Rho} {R : Rv → Rho → Prop} {elt tg iter tg1 iter1 : Expr} {sc : Scope} {pos : Pos} {own : List (Str × Nat)}
theorem we_lc2 {wi wi1 : TI} {g g1 : L2.Cx → TG} {S S1 : PyData → Rho → Rho → Prop} {is is1 vs1 : List Nat} (hS : TgI is g S) (hsub : ∀ i ∈ is, i ∈ own.map (·.2)) (hS1 : TgI is1 g1 S1) (hsub1 : ∀ i ∈ is1, i ∈ vs1) (hvs : ∀ i ∈ vs1, i ∈ own.map (·.2)) (hc : X.calm = true) (hN : X.N.Nodup) (hi : PI X tg iter wi) (ok : BlkOk X.N X.env.scope sc own)
    (hg : PGb X sc tg (g X)) (hi1 : ∀ (s : Shared) (H : Hp) (C : Addr) (cl : List (Str × Addr)) (fp : List Addr), PI (X.blk s H sc (compEnvC sc cl C X.env) fp) tg1 iter1 wi1) (hg1 : PGb X sc tg1 (g1 X))
    (hs : ∀ x, foldedSetIterable iter X.env x = pure x) (hs1 : ∀ env x, foldedSetIterable iter1 env x = pure x)
    (h : WI X Y wi ρ fun ds ρ1 => ds.length < 1000 ∧ ∃ (E : PyData → List PyData) (f : PyData → PyData → PyData), wipeR (wipeR ρ1 (own.map (·.2))) (own.map (·.2)) = wipeR ρ1 (own.map (·.2)) ∧
      (∀ d ∈ ds, (E d).length < 1000 ∧ ∃ ρ2, S d (wipeR ρ1 (own.map (·.2))) ρ2 ∧ wipeR (wipeR ρ2 vs1) (own.map (·.2)) = wipeR ρ1 (own.map (·.2)) ∧ WIp X wi1 ρ2 (E d) ∧ ∀ e ∈ E d, ∃ ρ3, S1 e (wipeR ρ2 vs1) ρ3 ∧ wipeR ρ3 vs1 = wipeR ρ2 vs1 ∧ WEb X sc elt ρ3 fun r ρ5 => r = .d (f d e) ∧ ρ5 = ρ3) ∧
      R (.n (ds.flatMap fun d => (E d).map (f d))) (wipeR ρ1 (own.map (·.2)))) : WE X Y (.ListComp elt [⟨tg, iter, [], 0⟩, ⟨tg1, iter1, [], 0⟩] sc pos) ρ R :=
  WE.of (pe_lc2 hc hN hi ok hvs hg (fun _ _ _ _ _ => pts_nil) hi1 hg1 (fun _ _ _ _ _ => pts_nil) (fun _ _ _ _ _ => peb) hs hs1) fun σ H B Q Wx tk rl q z => lc2_pure hS hsub hS1 hsub1 hvs tk rl q z h
end
end Bs
set_option maxHeartbeats 2000000
namespace Bs
open PySem PySem.Spec PyProof.Rows L2
/-! ### t > u, tuples of ints -/
section
open PySem.SeqAt
open PySem.AutoSeq1 (wpAny_loadPart')
open PySem.MeetsSeq PySem.MeetsSeq2 PySem.MeetsSeq3
theorem tup_gt (p q : Addr) (xa ya : Array Value) (na nb : Nat) (da db : Option Addr) (sa sb : Array (Option Value)) (is js : List Int) (ha : IntsAre xa.toList is) (hb : IntsAre ya.toList js) :
    Meets (Builtin.«tuple.__gt__» ⟨[.ref p, .ref q], []⟩)
      (fun _ RR z => z.heap.get? p = some { cls := .type "tuple", dict := da, data := .seq xa na, slots := sa } ∧ z.heap.get? q = some { cls := .type "tuple", dict := db, data := .seq ya nb, slots := sb } ∧
        RR (.ok (.ret (.bool (HT.lexLt js is)))) z) :=
  .of_wp fun prg wd Z RR z hz0 => by
    obtain ⟨zh, zg, zd, zk, zo⟩ := z; obtain ⟨hp1, hq1, hfin⟩ := hz0
    have two := AutoSeq1.sub_tuple_tuple
    have sa1 : xa.size = is.length := by rw [← ha.length]; simp
    have sb1 : ya.size = js.length := by rw [← hb.length]; simp
    wp_walk using wpAny_loadPart' hp1, wpAny_loadPart' hq1, wpAny_forIn_list _ (fun left bb z' => bb.1 = none ∧ z' = ⟨zh, zg, zd, zk, zo⟩ ∧ ∃ (us ts : List Value) (is' js' : List Int), left = us.zip ts ∧
      IntsAre us is' ∧ IntsAre ts js' ∧ is'.length + ya.size = js'.length + xa.size ∧ RR (.ok (.ret (.bool (HT.lexLt js' is')))) ⟨zh, zg, zd, zk, zo⟩) _
    case turn =>
      rintro ⟨y1, x1⟩ left bb z' ⟨hn, rfl, us, ts, is', js', eqz, hus, hts, hlen2, hRR⟩
      cases hus with
      | nil => rw [List.zip_nil_left] at eqz; cases eqz
      | cons i ti hus' =>
        cases hts with
        | nil => rw [List.zip_nil_right] at eqz; cases eqz
        | cons j tj hts' =>
          rw [List.zip_cons_cons] at eqz
          injection eqz with e12 eleft
          injection e12 with e1 e2
          subst e1 e2
          rw [HT.lexLt_cons] at hRR
          rw [List.length_cons, List.length_cons] at hlen2
          obtain ⟨ev, hev, hevi⟩ := HT.eqAt_int Z.in1 ⟨zh, zg, zd, zk, zo⟩ i ti j tj
          refine wpAny_bind (hev prg wd _ _ ?_)
          cases ev with
          | true =>
            rw [if_pos (hevi.mp rfl).symm] at hRR
            wp_walk
            exact ⟨rfl, rfl, _, _, _, _, eleft, hus', hts', by omega, hRR⟩
          | false =>
            rw [if_neg (fun e => Bool.noConfusion (hevi.mpr e.symm))] at hRR
            have hgt : ∀ (EE QQ : Value → Shared → Prop), QQ (.bool (decide (j < i))) ⟨zh, zg, zd, zk, zo⟩ → wpAny (model prg wd) Z.in1 (richCompare .Gt (.int i ti) (.int j tj)) QQ EE ⟨zh, zg, zd, zk, zo⟩ := fun EE QQ hq =>
              (gt_int hq : wpAny (model prg wd) Z.in1 (compareOp .Gt (.int i ti) (.int j tj)) QQ EE ⟨zh, zg, zd, zk, zo⟩)
            wp_walk using hgt
            exact ⟨_, rfl, by simpa using hRR⟩
    case fin =>
      rintro ⟨bb1, bb2⟩ z' ⟨hn, rfl, us, ts, is', js', eqz, hus, hts, hlen2, hRR⟩
      simp only at hn
      subst hn
      have hval : HT.lexLt js' is' = decide (ya.size < xa.size) := by
        cases hus with
        | nil =>
          cases hts with
          | nil => rw [HT.lexLt_nil_nil]; simp only [List.length_nil] at hlen2; exact (decide_eq_false (by omega)).symm
          | cons j tj hts' => rw [HT.lexLt_cons_nil]; simp only [List.length_nil, List.length_cons] at hlen2; exact (decide_eq_false (by omega)).symm
        | cons i ti hus' =>
          cases hts with
          | nil => rw [HT.lexLt_nil_cons]; simp only [List.length_nil, List.length_cons] at hlen2; exact (decide_eq_true (by omega)).symm
          | cons j tj hts' => rw [List.zip_cons_cons] at eqz; cases eqz
      rw [hval] at hRR
      wp_walk
      exact ⟨_, rfl, by simpa [Builtin.Tuple.tupleCompareSizes] using hRR⟩
    case h =>
      exact ⟨rfl, rfl, xa.toList, ya.toList, is, js, rfl, ha, hb, by omega, hfin⟩
end
theorem gt_tupInts {prg : Program} {wd : World} {Z : Around} {EE QQ : Value → Shared → Prop} {z : Shared} {p q : Addr} {xa ya : Array Value} {is js : List Int} (tp : IsTup z.heap p xa) (tq : IsTup z.heap q ya) (ia : IntsAre xa.toList is) (ja : IntsAre ya.toList js)
    (roomy : Z.units < cLine) (hq : QQ (.bool (HT.lexLt js is)) z) : wpAny (model prg wd) Z (compareOp .Gt (.ref p) (.ref q)) QQ EE z := by
  obtain ⟨⟨ca, ea, fa, ga⟩, oa, ka, la, ma⟩ := id tp
  obtain ⟨⟨cb, eb, fb, gb⟩, ob, kb, lb, mb⟩ := id tq
  simp only at ka ma kb mb
  subst ka ma kb mb
  exact richCompare_meets_room (op := .Gt) ⟨_, oa, rfl⟩ ⟨_, ob, rfl⟩ PySem.F.slot_tuple_gt PySem.F.entry_tuple_gt (PySem.F.args_tuple_gt_2 _ _) (tup_gt p q xa ya la lb ea eb ga gb is js ia ja)
    ⟨oa, ob, show Value.bool (HT.lexLt js is) ≠ Value.notImplemented ∧ QQ (.bool (HT.lexLt js is)) z from ⟨(fun e => nomatch e), hq⟩⟩ roomy
def rGtT (K : PySem.W.Frag) : R2 := fun x y H Q => ∃ p q is js, x = .ref p ∧ y = .ref q ∧ SqT K H p (is.map V.int) ∧ SqT K H q (js.map V.int) ∧ Q (.bl (HT.lexLt js is)) H
theorem op_gtT {X : Cx} (roomy : X.A.units < cLine) : OpR X (compareOp .Gt) (rGtT X.K) := by
  intro pins z σ H x y vx vy Q I r1 r2 h
  obtain ⟨p, q, is, js, rfl, rfl, tp, tq, hq⟩ := h
  cases r1
  cases r2
  obtain ⟨xs, vx, ix, _⟩ := I.tuple tp
  obtain ⟨ys, vy, iy, _⟩ := I.tuple tq
  have ia : IntsAre xs.toArray.toList is := intsAre_of vx
  have ja : IntsAre ys.toArray.toList js := intsAre_of vy
  exact gt_tupInts ix iy ia ja roomy ⟨.bl (HT.lexLt js is), H, I, rfl, hq⟩
inductive SGtT : PyData → PyData → Rv → Prop
  | mk (ns ms : List Int) : SGtT (.tuple (intsD ns)) (.tuple (intsD ms)) (.d (.bool (HT.lexLt ms ns)))
theorem o2_gtT : Op2 (fun X => rGtT X.K) SGtT := fun X B H x y d e z Q s u vx vy k => by
  cases s with
  | mk ns ms =>
    obtain ⟨a, vs, rfl, _, sH, da⟩ := vx.tup u
    obtain ⟨b, ws, rfl, _, tH, db⟩ := vy.tup u
    rw [ints_vals da] at sH
    rw [ints_vals db] at tH
    exact ⟨a, b, ns, ms, rfl, rfl, sH, tH, k _ B H (.sc (.bl _))⟩
end Bs
set_option maxHeartbeats 2000000
namespace Bs
open PySem PySem.Spec PyProof.Rows L2
/-! ### texts compared -/
inductive SEqS : PyData → PyData → Rv → Prop
  | mk (a b : Str) : SEqS (.str a) (.str b) (.d (.bool (decide (a = b))))
inductive SNeS : PyData → PyData → Rv → Prop
  | mk (a b : Str) : SNeS (.str a) (.str b) (.d (.bool (!decide (a = b))))
theorem dec_strV {a b : Str} : decide (V.str a = V.str b) = decide (a = b) := by
  rw [decide_eq_decide]
  exact ⟨fun h => by cases h; rfl, fun h => by rw [h]⟩
theorem o2_eqS : Op2 (fun _ => rEq) SEqS := fun X B H x y d e z Q s u vx vy k => by
  cases s with
  | mk a b =>
    rw [vx.str, vy.str]
    refine ⟨rfl, ?_⟩
    rw [dec_strV]
    exact k _ B H (.sc (.bl _))
theorem o2_neS : Op2 (fun _ => rNe) SNeS := fun X B H x y d e z Q s u vx vy k => by
  cases s with
  | mk a b =>
    rw [vx.str, vy.str]
    refine ⟨rfl, ?_⟩
    rw [dec_strV]
    exact k _ B H (.sc (.bl _))
end Bs
set_option maxHeartbeats 2000000
namespace Bs
open PySem PySem.Spec PyProof.Rows L2
section
variable {X : Cx} {Y : WY} {ρ : Rho} {D : Ed} {a b c e e2 : Expr} {pos p p2 pos' apos : Pos} {x y z : Str}
/-- a, b, c = e1, e2, e3: data, a new list, data -/
theorem w1_par3 {kt k2 : Nat} {pt pt2 px py pz : Pos} (i j l : Nat) (hc : X.calm = true) (hN : X.N.Nodup) (hi : X.N[i]? = some x) (hj : X.N[j]? = some y) (hl : X.N[l]? = some z) (hij : i ≠ j) (hil : i ≠ l) (hjl : j ≠ l) (hx : X.env.scope.names.lookup x = some .local) (hy : X.env.scope.names.lookup y = some .local) (hz : X.env.scope.names.lookup z = some .local)
    (hw : swappedStores [.Tuple [.Name x px, .Name y py, .Name z pz] kt pt] (.Tuple [a, b, c] k2 pt2) X.env = pure (some [x, y, z])) (hs : swapsWithSole [.Tuple [.Name x px, .Name y py, .Name z pz] kt pt] (.Tuple [a, b, c] k2 pt2) pos.line X.env = pure false)
    (h : WA X Y [a, b, c] ρ fun rs ρ1 => ∃ d1 ds d3, rs = [.d d1, .n ds, .d d3] ∧ ∀ q, q ∉ owns ρ1 → D.nx (((ρ1.set i (.dat d1)).set j (.own q ds)).set l (.dat d3))) : W1 X Y (.Assign [.Tuple [.Name x px, .Name y py, .Name z pz] kt pt] (.Tuple [a, b, c] k2 pt2) pos) ρ D :=
  W1.of (ps_par3 hc hN hi hj hl hij hil hjl hx hy hz pa_sA hw hs) fun σ H B C Wx tk rl q t => h σ H B _ Wx tk rl (fun vs rs B1 ρ1 H1 g1 rl1 vo ap hp => by
    obtain ⟨d1, ds, d3, rfl, hp⟩ := hp
    cases vo with
    | @cons v1 _ _ _ x1 t1 =>
      cases t1 with
      | @cons v2 _ _ _ x2 t2 =>
        cases t2 with
        | @cons v3 _ _ _ x3 t3 =>
          cases t3
          obtain ⟨q2, vs, rfl, h0, hb, no, hq, da⟩ := x2
          have no' : q2 ∉ owns (ρ1.set i (.dat d1)) := fun w => no (owns_setD nod w)
          refine ⟨v1, .ref q2, v3, rfl, ?_⟩
          have g2 := ((g1.setD (i := i) (nod (d := d1))).setN (i := j) (p := q2) (ds := ds) h0).setD (i := l) (nod (d := d3))
          have r2 := ((rl1.setD (i := i) x1).setN (i := j) hb no' hq da).setD (i := l) x3
          exact q.nx _ B1 _ H1 (by rw [List.length_set, List.length_set, List.length_set]) g2 r2 (hp q2 no)) t
/-- x.insert(k, e) -/
theorem w1_insert (i : Nat) {hap : attributeBase (.Name x p) "insert" X.env (eval (.Name x p) X.env) = eval (.Name x p) X.env} (hN : X.N[i]? = some x) (hv : Vis X.env.scope x) (hd : (x == ("__debug__" : Str)) = false) (hcd : (x == ("__classdict__" : Str)) = false)
    (hfew : ((backTo pos' (starEach [e, e2] X.env)).all (fun x => !x.1) && (backToKw pos' (keywordEach [] X.env)).all (fun x => x.1.isSome) && decide ([e, e2].length + ([] : List Keyword).length + (if ([] : List Keyword).isEmpty then 0 else 1) < 30)) = true)
    (hline : (apos.endLine == pos'.line) = true) (hs : starEach [e, e2] X.env = (false, eval e X.env) :: starEach [e2] X.env) (hpl : (backTo pos' (starEach [e2] X.env)).any (·.1) = false) (hsw : swapsWith (.Call (.Attribute (.Name x p) "insert" apos) [e, e2] [] pos') none pos.line X.env = pure false)
    (q0 : Addr) (ds0 : List PyData) (h0 : ρ[i]? = some (.own q0 ds0))
    (h : WA X Y [e, e2] ρ fun rs ρ1 => ∃ (k : Nat) (d : PyData) (ds : List PyData), rs = [.d (.int (k : Int)), .d d] ∧ ρ1[i]? = some (.own q0 ds) ∧ ds.length < 100000 ∧ k < 100000 ∧ D.nx (ρ1.set i (.own q0 (ds.take k ++ [d] ++ ds.drop k)))) : W1 X Y (.Expr (.Call (.Attribute (.Name x p) "insert" apos) [e, e2] [] pos') pos) ρ D :=
  W1.of (ps_expr (pe_bm PySem.F.plainAttrs_list PySem.F.slot_list_insert PySem.F.type_list_insert mt_insert (pe_var hN hv hd hcd) pa_sA hap hfew hline hs hpl) hsw) fun σ H B C Wx tk rl q z => by
    have hil : i < σ.length := by rw [← rl.len]; exact (List.getElem?_eq_some_iff.mp h0).1
    obtain ⟨ev, _, vs0, hv0, _⟩ := rl.sl i _ _ h0 (List.getElem?_eq_getElem hil)
    refine ⟨.ref q0, (List.getElem?_eq_getElem hil).trans (congrArg some ev), .inl ⟨rfl, vs0, .of hv0⟩, ?_⟩
    refine h σ H B _ Wx tk rl (fun vs rs B1 ρ1 H1 g1 rl1 vo _ hk => ?_) z
    obtain ⟨k, d, ds, rfl, hi, hl, hk, hD⟩ := hk
    cases vo with
    | @cons v1 _ _ _ x1 t1 =>
      cases t1 with
      | @cons v2 _ _ _ x2 t2 =>
        cases t2
        have x1 : Dp X.K B1 v1 (.int (k : Int)) := x1
        have x2 : Dp X.K B1 v2 d := x2
        cases x1
        obtain ⟨_, _, us, hu, au⟩ := rl1.sl i _ _ hi (List.getElem?_eq_getElem hil)
        refine ⟨q0, us, (k : Int), v2, rfl, rfl, hu, by rw [DpAll.len au]; exact Nat.lt_of_lt_of_le hl (by decide), by omega, by omega, ?_⟩
        rw [Int.toNat_natCast]
        exact q.nx σ B1 _ _ rfl (g1.write hi) (rl1.write hi (DpAll.app (DpAll.app (DpAll.take k au) (DpAll.one x2)) (DpAll.drop k au))) hD
/-- x[k], x[l] = e, a pair of data -/
theorem w1_set2 {i1 i2 : Expr} {sp1 sp2 pa pb pt : Pos} {kt : Nat} (i : Nat) (hc : X.calm = true) (hN : X.N[i]? = some x) (hv : Vis X.env.scope x) (hd : (x == ("__debug__" : Str)) = false) (hcd : (x == ("__classdict__" : Str)) = false)
    (ha1 : ∀ v, assign (.Subscript (.Name x pa) i1 sp1) X.env v = (do
      let o ← holding [v] (eval (.Name x pa) X.env)
      let k ← holding [v, o] (eval i1 X.env)
      standAt sp1
      holding [v, o, k] (setItem o k v)
      release [v, o, k] []))
    (ha2 : ∀ v, assign (.Subscript (.Name x pb) i2 sp2) X.env v = (do
      let o ← holding [v] (eval (.Name x pb) X.env)
      let k ← holding [v, o] (eval i2 X.env)
      standAt sp2
      holding [v, o, k] (setItem o k v)
      release [v, o, k] []))
    (he1 : (assignEach [.Subscript (.Name x pa) i1 sp1, .Subscript (.Name x pb) i2 sp2] X.env).map (·.2) = assign (.Subscript (.Name x pa) i1 sp1) X.env :: (assignEach [.Subscript (.Name x pb) i2 sp2] X.env).map (·.2))
    (he2 : (assignEach [.Subscript (.Name x pb) i2 sp2] X.env).map (·.2) = assign (.Subscript (.Name x pb) i2 sp2) X.env :: (assignEach [] X.env).map (·.2))
    (hn : (assignEach [.Subscript (.Name x pa) i1 sp1, .Subscript (.Name x pb) i2 sp2] X.env).length = 2) (hst : (assignEach [.Subscript (.Name x pa) i1 sp1, .Subscript (.Name x pb) i2 sp2] X.env).findIdx? (·.1) = none)
    (hs : swapsWithSole [.Tuple [.Subscript (.Name x pa) i1 sp1, .Subscript (.Name x pb) i2 sp2] kt pt] e pos.line X.env = pure false) (hw : swappedStores [.Tuple [.Subscript (.Name x pa) i1 sp1, .Subscript (.Name x pb) i2 sp2] kt pt] e X.env = pure none)
    (h1 : (assignEach [.Tuple [.Subscript (.Name x pa) i1 sp1, .Subscript (.Name x pb) i2 sp2] kt pt] X.env).map (·.2) = [assign (.Tuple [.Subscript (.Name x pa) i1 sp1, .Subscript (.Name x pb) i2 sp2] kt pt) X.env])
    (h : WE X Y e ρ fun r ρ1 => ∃ d1 d2 q0 ds0, r = .d (.tuple [d1, d2]) ∧ ρ1[i]? = some (.own q0 ds0) ∧ WE X Y i1 ρ1 fun k ρ2 => ∃ j n ds, k.dt = .int j ∧ ρ2[i]? = some (.own q0 ds) ∧ ixN ds.length j = some n ∧
      WE X Y i2 (ρ2.set i (.own q0 (ds.set n d1))) fun k ρ3 => ∃ j n ds, k.dt = .int j ∧ ρ3[i]? = some (.own q0 ds) ∧ ixN ds.length j = some n ∧ D.nx (ρ3.set i (.own q0 (ds.set n d2)))) :
    W1 X Y (.Assign [.Tuple [.Subscript (.Name x pa) i1 sp1, .Subscript (.Name x pb) i2 sp2] kt pt] e pos) ρ D :=
  W1.of (ps_asg pe_sE (pg_tup hc (pgs_cons (pg_sub (pe_var hN hv hd hcd) pe_sE set_list ha1) (pgs_cons (pg_sub (pe_var hN hv hd hcd) pe_sE set_list ha2) pgs_nil he2) he1) hn hst) hs hw h1) fun σ H B C Wx tk rl q z => h.run tk rl (fun v r B1 ρ1 H1 g1 rl1 vo hk => by
    obtain ⟨d1, d2, q0, ds0, rfl, h0, hidx⟩ := hk
    have hil : i < σ.length := by rw [← rl1.len]; exact (List.getElem?_eq_some_iff.mp h0).1
    obtain ⟨ev, _⟩ := rl1.sl i _ _ h0 (List.getElem?_eq_getElem hil)
    have vo : Dp X.K B1 v (.tuple [d1, d2]) := vo
    cases vo with
    | @tup t vs _ st da =>
      cases da with
      | @cons v1 _ _ _ dv1 ta =>
        cases ta with
        | @cons v2 _ _ _ dv2 tb =>
          cases tb
          refine ⟨t, [v1, v2], rfl, up_t rl1.up st, rfl, v1, [v2], rfl, ?_⟩
          refine ⟨.ref q0, (List.getElem?_eq_getElem hil).trans (congrArg some ev), ?_⟩
          refine hidx.run tk rl1 (fun kv kr B2 ρ2 H2 g2 rl2 ko hk2 => ?_) (z.on g1 rfl)
          obtain ⟨j, n, ds, ek, hi, hn, hidx2⟩ := hk2
          have w := ko.vw rl2
          rw [ek] at w
          obtain ⟨ev2, _, us, hu, au⟩ := rl2.sl i _ _ hi (List.getElem?_eq_getElem hil)
          have dv1' : Dp X.K B2 v1 d1 := Dp.up g2.gr dv1
          refine ⟨q0, us, j, n, rfl, w.int, hu, by rw [DpAll.len au]; exact hn, ?_⟩
          refine ⟨v2, [], rfl, ?_⟩
          have g12 := (g1.trans g2).write (i := i) (o := .lst (us.set n v1)) (es := ds.set n d1) hi
          have r12 := rl2.write (i := i) hi (DpAll.set dv1' n au)
          refine ⟨.ref q0, (List.getElem?_eq_getElem hil).trans (congrArg some ev), ?_⟩
          refine hidx2.run tk r12 (fun kv kr B3 ρ3 H3 g3 rl3 ko hk3 => ?_) (z.on g12 rfl)
          obtain ⟨j2, n2, ds2, ek2, hi2, hn2, hD⟩ := hk3
          have w2 := ko.vw rl3
          rw [ek2] at w2
          obtain ⟨_, _, us2, hu2, au2⟩ := rl3.sl i _ _ hi2 (List.getElem?_eq_getElem hil)
          have dv2' : Dp X.K B3 v2 d2 := Dp.up (g2.gr.trans g3.gr) dv2
          refine ⟨q0, us2, j2, n2, rfl, w2.int, hu2, by rw [DpAll.len au2]; exact hn2, ?_⟩
          refine ⟨rfl, ?_⟩
          exact q.nx σ B3 _ _ rfl ((g12.trans g3).write hi2) (rl3.write hi2 (DpAll.set dv2' n2 au2)) hD) z
end
end Bs
set_option maxHeartbeats 2000000
namespace Bs
open PySem PySem.Spec PyProof.Rows L2
theorem WT.imp {X : Cx} {Y : WY} {e : Expr} {ρ : Rho} {R R' : Bool → Rho → Prop} (h : WT X Y e ρ R') (i : ∀ k ρ', R' k ρ' → R k ρ') : WT X Y e ρ R :=
  fun σ H B Q Wx tk r q x => h σ H B Q Wx tk r (fun b B' ρ' H' g rl y => q b B' ρ' H' g rl (i _ _ y)) x
/-- an item that is there, of a list all of whose items are so -/
theorem at_all {Pr : PyData → Prop} {L : List PyData} {k : Int} (h : ∀ d ∈ L, Pr d) (h0 : 0 ≤ k) (h1 : k < L.length) : ∃ d, atI L k = some d ∧ Pr d := by
  obtain ⟨n, rfl⟩ := Int.eq_ofNat_of_zero_le h0
  have hn : n < L.length := by omega
  refine ⟨L[n], ?_, h _ (List.getElem_mem hn)⟩
  unfold atI ixN
  rw [if_pos (by omega), if_pos (by omega)]
  show L[(n : Int).toNat]? = _
  rw [Int.toNat_natCast]
  exact List.getElem?_eq_getElem hn
/-- flat data -/
theorem shp_of {d : PyData} (h1 : d.canLay0 = true) (h2 : d.depth ≤ 64) : Shp d := by
  unfold Shp SeqAt.shaped
  rw [h1, decide_eq_true h2]
  rfl
end Bs
set_option maxHeartbeats 2000000
namespace Bs
open PySem PySem.Spec PyProof.Rows L2
section
variable {P : Program} {w : World} {K : PySem.W.Frag} {mg : Str → Option Value} {base : Heap} {X : Cx} {Y : WY} {ρ : Rho} {R : Rv → Rho → Prop} {e : Expr} {pos p kpos : Pos} {x y : Str} {sp : BSp} {lv : Nat}
/-- f(y=e), f's one parameter by its name -/
theorem we_kw1 (D : Df P w K mg base lv x [y] sp) (I : InD X P w K mg base lv) (hg : Gl X x) (hdb : (x == ("__debug__" : Str)) = false) (hall : (backToKw pos (keywordEach [⟨some y, e, kpos⟩] X.env)).all (·.1.isSome) = true) (hks : (backToKw pos (keywordEach [⟨some y, e, kpos⟩] X.env)).filterMap (·.1) = [y])
    (hpl : ((backTo pos (starEach [] X.env)).any (·.1) || (backToKw pos (keywordEach [⟨some y, e, kpos⟩] X.env)).any (·.1.isNone)) = false)
    (h : WE X Y e ρ fun r ρ1 => r.nob ∧ sp (datS [r]) (fun r _ => R r ρ1) (fun c fs _ => Y c fs ρ1)) : WE X Y (.Call (.Name x p) [] [⟨some y, e, kpos⟩] pos) ρ R := by
  obtain ⟨rfl, rfl, rfl, rfl, rfl, hr, gu⟩ := I
  obtain ⟨f, fd, F, hm, hk, _, hb⟩ := D.ex
  intro σ H B Q Wx tk rl q z pins s I
  refine wpAny_Call_Name_kw (ld_glob I hg hm ?_ hdb)
  have h1 : tCons (sE X e) tNil σ H (fun vs H1 => ∃ v r B1 ρ1, vs = [v] ∧ Go B ρ H B1 ρ1 H1 ∧ Rel X.K B1 ρ1 σ H1 ∧ VOk X.K H B1 ρ1 H1 v r ∧ r.nob ∧ sp (datS [r]) (fun r _ => R r ρ1) (fun c fs _ => Y c fs ρ1)) :=
    h.run tk rl (fun v r B1 ρ1 H1 g1 rl1 vo hp => ⟨v, r, B1, ρ1, rfl, g1, rl1, vo, hp.1, hp.2⟩) z
  refine PySem.W.callWith_KW0 (h₀ := X.base) I.ok.mod.kin hk hall (thn ((pk_cons pe_sE pk_nil).run pos pins s σ H _ I h1) fun ws s2 hw => ?_) hpl
  obtain ⟨vs, H1, I1, rv, v, r, B1, ρ1, rfl, g1, rl1, vo, nb, hs⟩ := hw
  refine ⟨I1.kIn, ?_⟩
  rw [hks]
  obtain ⟨B2, g2, rl2, dv, _, _⟩ := VOk.freeze (fun i ds e => by rw [e] at nb; exact nb) g1 rl1 vo
  have RR : Rel X.K B2 (datS [r]) ([v].map some) H1 := rel_dat rl2.up (rs := [r]) (.cons dv .nil)
  have hl : ws.length = 1 := by have := rv.length; simpa using this.symm
  refine wpAny_call (codeAny_mono (F.run X.A X.stack s2 H1 B2 ⟨[], [y].zip ws⟩ ws [v] (datS [r]) _ _ hr gu I1.env0 (hb s2 ws I1.kIn hl) rv RR hs) fun rr s' hq => ?_)
  cases rr with
  | error ex =>
    refine tk ex s' (XE.of_call I1 (fun cls d H' hy => ?_) hq)
    obtain ⟨c, fs, B', as', g3, rl3, xo, hY⟩ := hy
    obtain ⟨g4, rl4⟩ := back_dat rl2 g3 rl3.up
    exact z cls d c fs B' ρ1 σ H' rfl (g2.trans g4) rl4 xo hY
  | ok fl =>
    cases fl with
    | ret u =>
      obtain ⟨v', H', J, r2, q2⟩ := I1.after hq
      obtain ⟨r3, B', as', g3, rl3, vo3, nb3, hR⟩ := q2
      obtain ⟨g4, rl4⟩ := back_dat rl2 g3 rl3.up
      exact ⟨v', H', J, r2, q v' r3 B' ρ1 H' (g2.trans g4) rl4 ((vok_dat rl2 nb3 vo3).org g2) hR⟩
    | next => exact False.elim hq
    | brk => exact False.elim hq
    | cont => exact False.elim hq
end
end Bs
set_option maxHeartbeats 2000000
namespace Bs
open PySem PySem.Spec PyProof.Rows L2
section
variable {X : Cx} {Y : WY} {ρ : Rho} {R : Rv → Rho → Prop} {a b c d : Expr} {pos : Pos}
/-- a op1 b op2 c op3 d -/
def tChain3 (r r' r'' : R2) (ta tb tc td : TE) : TE := fun σ H Q => ta σ H fun x H1 => tb σ H1 fun y H2 => r x y H2 fun z H3 => ∃ k, z = .bl k ∧
  (if k = true then tc σ H3 fun u H4 => r' y u H4 fun z' H5 => ∃ k', z' = .bl k' ∧ (if k' = true then td σ H5 fun t H6 => r'' u t H6 Q else Q (.bl false) H5) else Q (.bl false) H3)
theorem pe_chain3 {op op' op'' : CmpOp} {r r' r'' : R2} {ta tb tc td : TE} (ho : OpR X (compareOp op) r) (ho' : OpR X (compareOp op') r') (ho'' : OpR X (compareOp op'') r'') (ha : PE X a ta) (hb : PE X b tb) (hc : PE X c tc) (hd : PE X d td)
    (hm : lastMarks [op, op', op''] [b, c, d] = false) : PE X (.Compare a [op, op', op''] [b, c, d] pos) (tChain3 r r' r'' ta tb tc td) := by
  refine ⟨fun pins s σ H Q I h => ?_⟩
  refine Compare_chain (thn (ha.run pins s σ H _ I h) fun v s1 ⟨x, H1, I1, r1, q1⟩ => chain_link (thn (hb.run pins s1 σ H1 _ I1 q1) fun u s2 ⟨y, H2, I2, r2, q2⟩ =>
    thn (ho pins s2 σ H2 x y v u _ I2 r1 r2 q2) fun d s3 ⟨z, H3, I3, r3, k, e, q3⟩ => ?_)) hm
  subst e
  cases r3
  refine wpAny_truthy_bool ?_
  cases k with
  | false => exact ite_ff ⟨.bl false, H3, I3, rfl, q3⟩
  | true =>
    refine ite_tt (chain_link (thn (hc.run pins s3 σ H3 _ I3 q3) fun w' s4 ⟨z', H4, I4, r4, q4⟩ => thn (ho' pins s4 σ H4 y z' u w' _ I4 r2 r4 q4) fun d' s5 ⟨z2, H5, I5, r5, k2, e2, q5⟩ => ?_))
    subst e2
    cases r5
    refine wpAny_truthy_bool ?_
    cases k2 with
    | false => exact ite_ff ⟨.bl false, H5, I5, rfl, q5⟩
    | true => exact ite_tt (chain_last (thn (hd.run pins s5 σ H5 _ I5 q5) fun w6 s6 ⟨z6, H6, I6, r6, q6⟩ => ho'' pins s6 σ H6 z' z6 w' w6 Q I6 r4 r6 q6))
theorem we_chain3 {op op' op'' : CmpOp} {r r' r'' : L2.Cx → R2} {S S' S'' : PyData → PyData → Rv → Prop} (ho : OpR X (compareOp op) (r X)) (ho' : OpR X (compareOp op') (r' X)) (ho'' : OpR X (compareOp op'') (r'' X)) (hS : Op2 r S) (hS' : Op2 r' S') (hS'' : Op2 r'' S'') (hm : lastMarks [op, op', op''] [b, c, d] = false)
    (h : WE X Y a ρ fun x ρ1 => WE X Y b ρ1 fun y ρ2 => Cur ρ1 ρ2 x ∧ ∃ k, S x.dt y.dt (.d (.bool k)) ∧ (k = true → WE X Y c ρ2 fun z ρ3 => Cur ρ2 ρ3 y ∧ ∃ k, S' y.dt z.dt (.d (.bool k)) ∧ (k = true → WE X Y d ρ3 fun t ρ4 => Cur ρ3 ρ4 z ∧ ∃ k, S'' z.dt t.dt (.d (.bool k)) ∧ R (.d (.bool k)) ρ4) ∧ (k = false → R (.d (.bool false)) ρ3)) ∧ (k = false → R (.d (.bool false)) ρ2)) : WE X Y (.Compare a [op, op', op''] [b, c, d] pos) ρ R :=
  WE.of (pe_chain3 ho ho' ho'' pe_sE pe_sE pe_sE pe_sE hm) fun σ H B Q Wx tk rl q x => h.run tk rl (fun v1 r1 B1 ρ1 H1 g1 rl1 vo1 hb => hb.run tk rl1 (fun v2 r2 B2 ρ2 H2 g2 rl2 vo2 hz => by
    obtain ⟨cu, k, hs, ht, hf⟩ := hz
    refine hS X B2 H2 v1 v2 _ _ _ _ hs rl2.up ((vo1.on g2 cu).vw rl2) (vo2.vw rl2) fun v B3 H3 m => ?_
    obtain ⟨g3, rl3, vo3⟩ := m.go (g1.trans g2) rl2
    have e1 : v = .bl k := by cases vo3 with | bl b => rfl
    obtain ⟨g23, _, _⟩ := m.go (Go.refl B2 ρ2 H2) rl2
    refine ⟨k, e1, ?_⟩
    cases k with
    | false => exact q (.bl false) (.d (.bool false)) B3 ρ2 H3 g3 rl3 (Dp.bl false) (hf rfl)
    | true =>
      show sE X c σ H3 _
      have vo2' : VOk X.K H1 B3 ρ2 H3 v2 r2 := vo2.on g23 (by cases r2 <;> first | trivial | exact fun p h => h)
      refine (ht rfl).run tk rl3 (fun v4 r4 B4 ρ4 H4 g4 rl4 vo4 hz4 => ?_) ((x.on g1 rfl).on (g2.trans g23) rfl)
      obtain ⟨cu4, k4, hs4, ht4, hf4⟩ := hz4
      refine hS' X B4 H4 v2 v4 _ _ _ _ hs4 rl4.up ((vo2'.on g4 cu4).vw rl4) (vo4.vw rl4) fun v' B5 H5 m5 => ?_
      obtain ⟨g5, rl5, vo5⟩ := m5.go (g3.trans g4) rl4
      have e5 : v' = .bl k4 := by cases vo5 with | bl b => rfl
      obtain ⟨g45, _, _⟩ := m5.go (Go.refl B4 ρ4 H4) rl4
      refine ⟨k4, e5, ?_⟩
      cases k4 with
      | false => exact q (.bl false) (.d (.bool false)) B5 ρ4 H5 g5 rl5 (Dp.bl false) (hf4 rfl)
      | true =>
        show sE X d σ H5 _
        have vo4' : VOk X.K H3 B5 ρ4 H5 v4 r4 := vo4.on g45 (by cases r4 <;> first | trivial | exact fun p h => h)
        refine (ht4 rfl).run tk rl5 (fun v6 r6 B6 ρ6 H6 g6 rl6 vo6 hz6 => ?_) (((x.on g1 rfl).on (g2.trans g23) rfl).on (g4.trans g45) rfl)
        obtain ⟨cu6, k6, hs6, hr6⟩ := hz6
        refine hS'' X B6 H6 v4 v6 _ _ _ _ hs6 rl6.up ((vo4'.on g6 cu6).vw rl6) (vo6.vw rl6) fun v7 B7 H7 m7 => ?_
        obtain ⟨g7, rl7, vo7⟩ := m7.go (g5.trans g6) rl6
        exact q v7 _ B7 ρ6 H7 g7 rl7 vo7 hr6) (x.on g1 rfl)) x
end
end Bs
set_option maxHeartbeats 4000000
/-! an exception class whose __init__ says super().__init__('..') and keeps its one argument in a field: the call of that __init__ -/
namespace Bs
open PySem PySem.Spec PyProof.Rows PySem.W PySem.Calls
section
variable {prog : Program} {w : World} {A : Around} {E : Value → Shared → Prop} {h : Heap} {g : Array GenState} {d : Drawn} {t : Nat} {os : OsState}
variable {nm q : Str} {C N : Addr} {bs bm : List Value} {hdct : Bool} {sn : List Str} {sub : List Value} {ab : Bool} {col : Option Bool} {dd : Option Addr} {k0 k1 k2 k3 k5 : Option Value}
/-- super().__init__(..), bound, called -/
theorem call_sup {u e t0 : Addr} {rest : List Value} {Q : Value → Shared → Prop}
    (hC : h.get? C = some (excClassObj nm q C N bs bm hdct sn sub ab col dd k0 k1 k2 k3 k5 "ValueError.__new__")) (he : h.get? e = some (HandSPX.excO C t0)) (hu : h.get? u = some (kxs_mw "ValueError.__init__" e)) (hrest : rest.length ≤ sizeLine)
    (hq : ∀ h' t1, (∀ b o, b ≠ e → h.get? b = some o → h'.get? b = some o) → h'.get? e = some (HandSPX.excO C t1) → Q .none ⟨h', g, d, t, os⟩) :
    wpAny (model prog w) A (call (.ref u) rest) Q E ⟨h, g, d, t, os⟩ := by
  refine wpAny_call (codeAny_of_tree ?_)
  show wpAny _ A.in1 (callAny (.ref u) ⟨rest, []⟩) _ _ _
  simp only [callAny]
  refine wpAny_bind (wpAny_load hu ?_)
  simp only [kxs_mw, show (Value.type "method-wrapper" == Value.type "method" || Value.type "method-wrapper" == Value.type "builtin_function_or_method" || Value.type "method-wrapper" == Value.type "method-wrapper") = true by decide, if_true]
  refine KFB.if_so (by decide) ?_
  refine wpAny_bind (check_bound_init F.excBase_ValueError.toExcCallFacts hC he rfl ?_)
  refine wpAny_bind (wpAny_pure (wpAny_pure ?_))
  refine ⟨plainId_quiet F.excBase_ValueError.init.plain _, codeAny_builtin F.excBase_ValueError.initEntry ?_⟩
  rw [Around.under_plainId F.excBase_ValueError.init.plain _]
  wp_walk
  refine hq _ h.objs.size (fun b o hb ho => ?_) ?_
  · rw [Heap.get?_update_other _ _ (Ne.symm hb)]
    exact Heap.get?_push_of_some _ ho
  · rw [Heap.get?_update_self _ (Heap.get?_push_of_some _ he) rfl]
    rfl
end
/-- the body of such an __init__ -/
def iBody (m x f : Str) (j : Nat) (p0 p1 p2 p3 p4 p5 q0 q1 q2 q3 : Pos) : List Stmt :=
  [.Expr (.Call (.Attribute (.Call (.Name "super" p0) [] [] p1) "__init__" p2) [.Constant (.str m) j p3] [] p4) p5, .Assign [.Attribute (.Name "self" q0) f q1] (.Name x q2) q3]
/-- its scope -/
def iScope (x : Str) : Scope := { kind := .function, names := [("self", .local), (x, .local), ("__class__", .free), ("super", .globalImplicit)], isGenerator := false, isCoroutine := false, more := [] }
def iArgs (x : Str) (p p' : Pos) : Arguments := { posonlyargs := [], args := [{ arg := "self", annotation := none, pos := p }, { arg := x, annotation := none, pos := p' }], vararg := none, kwonlyargs := [], kw_defaults := [], kwarg := none, defaults := [] }
end Bs
set_option maxHeartbeats 4000000
namespace Bs
open PySem PySem.Spec PyProof.Rows PySem.W PySem.Calls
section
variable {prog : Program} {w : World} {A : Around} {hp : Heap} {g : Array GenState} {d : Drawn} {t : Nat} {os : OsState}
variable {nm q : Str} {C N : Addr} {bs bm : List Value} {sn : List Str} {sub : List Value} {ab : Bool} {col : Option Bool} {dd : Option Addr} {k0 k1 k2 k3 k5 : Option Value}
theorem ldl {M : Model} {A : Around} {E : Value → Shared → Prop} {s : Shared} {env : Env} {m : Str → Option Value} {x : Str} {pos : Pos} {v : Value} {Q : Value → Shared → Prop} (hn : s.heap.Ns env.locals m) (hv : m x = some v) (h : Q v s)
    (hk : env.scope.kind = .function) (hl : env.kindOf x = some .local) (hd : (x == ("__debug__" : Str)) = false) : wpAny M A (eval (.Name x pos) env) Q E s := wpAny_Name (wpAny_loadName_local hk hl hn hv h) hd
theorem init_code {K : Frag} {mg : Str → Option Value} {base : Heap} {fI e t0 cc cda : Addr} {u : Value} {R : Result → Shared → Prop} {qual m x f : Str} {j : Nat} {p0 p1 p2 p3 p4 p5 q0 q1 q2 q3 pa pa' : Pos}
    {oc ccl dcl dV kV doc pm ct : Value} {od ccd dcd an : Option Addr} {osl ccs dcs : Array (Option Value)} {vs : Array Value} {file : Str} {tf : Tok}
    (X : K.In hp) (md : L2.Mod K mg base) (hb : ∀ b o, base.get? b = some o → hp.get? b = some o) (hr : A.depth < recursionLimit)
    (lC : K.lookup C = some (excClassObj nm q C N bs bm true sn sub ab col dd k0 k1 k2 k3 k5 "ValueError.__new__")) (hbm : HandSPX.refsVE bm = true)
    (sa : findIn K (.ref C) "__setattr__" = some (some (.builtin "object.__setattr__"))) (hno : findIn K (.ref C) f = some none)
    (lf : K.lookup fI = some ⟨oc, od, .func (ksFn "__init__" qual (iArgs x pa pa') (iBody m x f j p0 p1 p2 p3 p4 p5 q0 q1 q2 q3) (iScope x) dV kV doc pm an (.ref cda) ct cc), osl⟩) (hcd : codeIn K (.ref cda) qual = true)
    (lcc : K.lookup cc = some ⟨ccl, ccd, .cell (some (.ref C)), ccs⟩) (lcda : K.lookup cda = some ⟨dcl, dcd, .fields vs, dcs⟩) (hvs : vs[2]? = some (.str file tf)) (hfile : ((prog.main.file : Str) == file) = true)
    (htop : (prog.main.scope.names.lookup ("super" : Str)).isSome = false) (hsup : nsIn K mainGlobals "super" = some none) (hany : nsIn K cStatics "thirdparty.any" = some none)
    (hsin : ks_superIn K C C "__init__" = some (some (.builtin "ValueError.__init__"))) (hmro : mroIn K C (.ref C) = some true) (hVE : subIn K (.ref C) (.type "ValueError") = some true)
    (hks : (iScope x).names.lookup ("super" : Str) = some .globalImplicit) (hkc : (iScope x).names.lookup ("__class__" : Str) = some .free) (hkx : (iScope x).names.lookup x = some .local) (hkl : (iScope x).names.lookup ("self" : Str) = some .local) (hxd : (x == ("__debug__" : Str)) = false) (hxs : (x == ("self" : Str)) = false)
    (hbind : ∀ s : Shared, BindsTo s (ksFn "__init__" qual (iArgs x pa pa') (iBody m x f j p0 p1 p2 p3 p4 p5 q0 q1 q2 q3) (iScope x) dV kV doc pm an (.ref cda) ct cc) ⟨[.ref e, u], []⟩ [("self", .ref e), (x, u)])
    (hev : ∃ pl : Sem Bool, ∀ L : Addr, eval (.Call (.Attribute (.Call (.Name "super" p0) [] [] p1) "__init__" p2) [.Constant (.str m) j p3] [] p4) (ksEnv qual (iScope x) L fI (.ref cda) cc) = (do
      let ov ← attributeBase (.Call (.Name "super" p0) [] [] p1) "__init__" (ksEnv qual (iScope x) L fI (.ref cda) cc) (eval (.Call (.Name "super" p0) [] [] p1) (ksEnv qual (iScope x) L fI (.ref cda) cc))
      standAt p2.atName
      let (f, first) ← holding [ov] (getMethod ov "__init__" pl)
      callWith p4 f first (backTo p4 (starEach [.Constant (.str m) j p3] (ksEnv qual (iScope x) L fI (.ref cda) cc))) []))
    (he : hp.get? e = some (HandSPX.excO C t0)) (hbe : base.get? e = none)
    (hq : ∀ h' tk' dx t1, (∀ b o, b ≠ e → hp.get? b = some o → h'.get? b = some o) → hp.objs.size ≤ dx → h'.get? e = some ({ cls := .ref C, dict := some dx, data := .fields #[.ref t1, .none, .none, .none, .bool false, .none] } : Obj) →
      h'.Ns1 dx (fun y => if y = f then some u else none) → R (.ok (.ret .none)) ⟨h', g, d, tk', os⟩) :
    codeAny (model prog w) A (.call (.ref fI) ⟨[.ref e, u], []⟩) R ⟨hp, g, d, t, os⟩ := by
  have hcl : clsIn K C = some { name := nm, bases := bs, mro := .ref C :: bm, ns := N, qualname := q, hasDict := true, slotNames := sn, subclasses := sub, abstract := ab, collection := col, hasDel := false } := by unfold clsIn; rw [lC] <;> rfl
  have hcellB : ∀ y ∈ (iScope x).names, y.2 ≠ .cell := by
    intro y hy
    simp only [iScope, List.mem_cons, List.not_mem_nil, or_false] at hy
    rcases hy with rfl | rfl | rfl | rfl <;> exact fun z => by cases z
  have hloc : ∀ y ∈ ([("self", .ref e), (x, u)] : List (Str × Value)), (iScope x).names.lookup y.1 = some .local := by
    intro y hy
    simp only [List.mem_cons, List.not_mem_nil, or_false] at hy
    rcases hy with rfl | rfl
    · exact hkl
    · exact hkx
  refine ks_codeAny_call_defAt (fd := ksFn "__init__" qual (iArgs x pa pa') (iBody m x f j p0 p1 p2 p3 p4 p5 q0 q1 q2 q3) (iScope x) dV kV doc pm an (.ref cda) ct cc) (body := iBody m x f j p0 p1 p2 p3 p4 p5 q0 q1 q2 q3) hr (X _ _ lf) rfl (md.nolimit.keeps hb) (codeRec_of X hcd) rfl (hbind _) hcellB hloc (fun h₁ hns hk₁ => ?_) rfl rfl rfl
  have X1 : K.In h₁ := X.keeps hk₁
  have b1 : ∀ b o, base.get? b = some o → h₁.get? b = some o := fun b o z => hk₁ b o (hb b o z)
  have he1 := hk₁ _ _ he
  have hC1 := X1 _ _ lC
  obtain ⟨mb, nb, hmb⟩ := md.blt
  obtain ⟨pl, hev⟩ := hev
  have oL := hns
  obtain ⟨oL, es, ep, hL, hrest⟩ := oL
  have eL : e ≠ hp.objs.size := Nat.ne_of_lt (Heap.lt_size he)
  refine ks_wpAt_execs_cons (ks_wpAt_Expr_any (ks_wpAt_MethodCall (pl := pl) ?_ (hev hp.objs.size)) rfl rfl)
  refine ks_wpAt_super_base (f := fI) (cc := cda) hks hkc (by decide) rfl (X1 _ _ lf) rfl rfl rfl (X1 _ _ lcda) rfl hvs hfile htop ?_
  refine ks_loadName_global rfl hks (loadGlobal_builtin (md.glob.keeps b1) (mg_none_of X1 (md.glob.keeps b1) hsup) (nb.keeps b1) ((hmb _ (by decide +kernel)).trans (by kernel_rfl)) ⟨rfl, ?_⟩)
  refine wpAny_loadName_free rfl hkc (c := cc) rfl ⟨_, X1 _ _ lcc, rfl⟩ ?_
  have lself : List.lookup ("self" : Str) ([("self", .ref e), (x, u)] : List (Str × Value)).reverse = some (.ref e) := by
    show List.lookup ("self" : Str) ([(x, u), ("self", .ref e)] : List (Str × Value)) = _
    have hsx : (("self" : Str) == x) = false := by
      rw [Bool.eq_false_iff] at hxs ⊢
      exact fun z => hxs (beq_iff_eq.mpr (beq_iff_eq.mp z).symm)
    rw [List.lookup, hsx]
    show List.lookup ("self" : Str) ([("self", .ref e)] : List (Str × Value)) = _
    simp [List.lookup]
  have lx : List.lookup x ([("self", .ref e), (x, u)] : List (Str × Value)).reverse = some u := by
    show List.lookup x ([(x, u), ("self", .ref e)] : List (Str × Value)) = _
    simp [List.lookup]
  refine wpAny_loadName_local rfl hkl hns (v := .ref e) lself ?_
  refine ks_wpAny_isType_cls hC1 rfl ⟨rfl, ?_⟩
  refine ks_wpAny_call_super hC1 rfl he1 rfl (fun c z => by cases z) (looks_mroIn X1 hmro) (fun h2 e2 k2 => ?_)
  have X2 : K.In h2 := X1.keeps k2
  have I2 : InstAt h2 e (HandSPX.excO C t0) C none := ⟨k2 _ _ he1, rfl, rfl, trivial⟩
  have hf : alongIn K "__init__" (((Value.ref C :: bm).dropWhile (· != .ref C)).drop 1) = some (some (.builtin "ValueError.__init__")) := by
    have z := hsin
    unfold ks_superIn at z
    rw [hcl] at z
    exact z
  refine kxs_getMethod kxs_ValueError e2 (looks_opaque X2 hany) (l₀ := .ref C :: bm) (fun A Q E s k q => wpAny_bind ((looks_clsIn X2 hcl) A _ E s k (wpAny_pure q))) rfl X2 hf (I2.type.andThen (looks_subIn X2 hVE)) (ks_ne X2 I2 hcl) (by decide) ?_
  show wpAny _ _ (callWith p4 (.ref h2.objs.size) [] ((false, eval (.Constant (.str m) j p3) (ksEnv qual (iScope x) hp.objs.size fI (.ref cda) cc)) :: []) []) _ _ _
  have up3 : ∀ b o, h2.get? b = some o → (h2.push (kxs_mw "ValueError.__init__" e)).get? b = some o := fun b o z => Heap.get?_push_of_some _ z
  have hu3 : (h2.push (kxs_mw "ValueError.__init__" e)).get? h2.objs.size = some (kxs_mw "ValueError.__init__" e) := Heap.get?_push_at rfl rfl
  refine kxs_callWith (i := "ValueError.__init__") (x := e) rfl (evalArgs_plain (spliced_cons (Constant_str (spliced_nil ⟨hu3, ?_⟩))))
  have X3 : K.In (h2.push (kxs_mw "ValueError.__init__" e)) := X2.keeps up3
  refine call_sup (X3 _ _ lC) (up3 _ _ (k2 _ _ he1)) hu3 (by show 1 ≤ sizeLine; rw [sizeLine_eq]; omega) (fun h4 t1 k4 e4 => ?_)
  have nB : ∀ b o, base.get? b = some o → b ≠ e := fun b o z y => by
    rw [y, hbe] at z
    cases z
  have b4 : ∀ b o, base.get? b = some o → h4.get? b = some o := fun b o z => k4 b o (nB b o z) (up3 _ _ (k2 _ _ (b1 b o z)))
  have X4 : K.In h4 := md.kin.keeps b4
  have hns4 : h4.Ns hp.objs.size fun y => List.lookup y ([("self", .ref e), (x, u)] : List (Str × Value)).reverse := ⟨oL, es, ep, k4 _ _ eL.symm (up3 _ _ (k2 _ _ hL)), hrest⟩
  refine ks_wpAt_execs_cons (ks_wpAt_Assign_Attr (wpAt_of_wpAny (ldl (env := ksEnv qual (iScope x) hp.objs.size fI (.ref cda) cc) hns4 lx ?_ rfl hkx hxd)) rfl)
  refine ldl (env := ksEnv qual (iScope x) hp.objs.size fI (.ref cda) cc) hns4 lself ?_ rfl hkl (by decide)
  refine set_plain X4 (ox := { cls := .ref C, dict := none, data := .fields #[.ref t1, .none, .none, .none, .bool false, .none] }) (od := none) ⟨e4, rfl, rfl, trivial⟩ sa ?_
  refine HandSPX.exc_osa X4 e4 hcl (show HandSPX.refsVE (.ref C :: bm) = true from hbm) rfl hno (fun h5 tk5 dx k5' dn dne hx5 hn5 => ?_)
  refine wpAt_of_wpAny (wpAny_execs_nil ?_)
  refine hq h5 tk5 dx t1 (fun b o hbe' z => k5' b o hbe' (k4 b o hbe' (up3 _ _ (k2 _ _ (hk₁ _ _ z))))) ?_ hx5 hn5
  have : hp.objs.size < h4.objs.size := Heap.lt_size (k4 _ _ eL.symm (up3 _ _ (k2 _ _ hL)))
  exact Nat.le_of_lt (Nat.lt_of_lt_of_le this dn)
end
end Bs
set_option maxHeartbeats 4000000
namespace Bs
open PySem PySem.Spec PyProof.Rows L2
/-- what the written part says of an exception class with an own __init__ that says super().__init__('..') and keeps its one argument, x, in the field f -/
structure ExF (P : Program) (K : PySem.W.Frag) (mg : Str → Option Value) (n : Str) (C : Addr) (x f : Str) : Prop where
  gC : mg n = some (.ref C)
  T : L2.OexC K C
  hno : PySem.W.findIn K (.ref C) f = some none
  rd : L2.XfC K C
  ini : ∃ (nm q : Str) (N : Addr) (bs bm : List Value) (sn : List Str) (sub : List Value) (ab : Bool) (col : Option Bool) (dd : Option Addr) (k0 k1 k2 k3 k5 : Option Value) (fI cc cda : Addr) (qual m : Str) (j : Nat) (p0 p1 p2 p3 p4 p5 q0 q1 q2 q3 pa pa' : Pos)
      (oc ccl dcl kV doc pm ct : Value) (od ccd dcd an : Option Addr) (osl ccs dcs : Array (Option Value)) (vs : Array Value) (file : Str) (tf : Tok),
      K.lookup C = some (excClassObj nm q C N bs bm true sn sub ab col dd k0 k1 k2 k3 k5 "ValueError.__new__") ∧ PySem.HandSPX.refsVE bm = true ∧
      PySem.W.findIn K (.ref C) "__init__" = some (some (.ref fI)) ∧ PySem.W.typeIn K (.ref fI) = some (.type "function") ∧
      K.lookup fI = some ⟨oc, od, .func (PySem.W.ksFn "__init__" qual (iArgs x pa pa') (iBody m x f j p0 p1 p2 p3 p4 p5 q0 q1 q2 q3) (iScope x) .none kV doc pm an (.ref cda) ct cc), osl⟩ ∧ PySem.W.codeIn K (.ref cda) qual = true ∧
      K.lookup cc = some ⟨ccl, ccd, .cell (some (.ref C)), ccs⟩ ∧ K.lookup cda = some ⟨dcl, dcd, .fields vs, dcs⟩ ∧ vs[2]? = some (.str file tf) ∧ ((P.main.file : Str) == file) = true ∧
      PySem.W.ks_superIn K C C "__init__" = some (some (.builtin "ValueError.__init__")) ∧ PySem.W.mroIn K C (.ref C) = some true ∧ PySem.W.subIn K (.ref C) (.type "ValueError") = some true ∧
      (∃ pl : Sem Bool, ∀ L : Addr, eval (.Call (.Attribute (.Call (.Name "super" p0) [] [] p1) "__init__" p2) [.Constant (.str m) j p3] [] p4) (PySem.W.ksEnv qual (iScope x) L fI (.ref cda) cc) = (do
        let ov ← attributeBase (.Call (.Name "super" p0) [] [] p1) "__init__" (PySem.W.ksEnv qual (iScope x) L fI (.ref cda) cc) (eval (.Call (.Name "super" p0) [] [] p1) (PySem.W.ksEnv qual (iScope x) L fI (.ref cda) cc))
        standAt p2.atName
        let (f, first) ← holding [ov] (getMethod ov "__init__" pl)
        callWith p4 f first (backTo p4 (starEach [.Constant (.str m) j p3] (PySem.W.ksEnv qual (iScope x) L fI (.ref cda) cc))) [])) ∧
      (∀ e u : Value, bindArgs (PySem.W.ksFn "__init__" qual (iArgs x pa pa') (iBody m x f j p0 p1 p2 p3 p4 p5 q0 q1 q2 q3) (iScope x) .none kV doc pm an (.ref cda) ct cc) ⟨[e, u], []⟩ = pure [(("self" : Str), e), (x, u)])
  nms : (iScope x).names.lookup ("super" : Str) = some .globalImplicit ∧ (iScope x).names.lookup ("__class__" : Str) = some .free ∧ (iScope x).names.lookup x = some .local ∧ (iScope x).names.lookup ("self" : Str) = some .local ∧ (x == ("__debug__" : Str)) = false ∧ (x == ("self" : Str)) = false
  htop : (P.main.scope.names.lookup ("super" : Str)).isSome = false
  hsup : PySem.W.nsIn K mainGlobals "super" = some none
  hany : PySem.W.nsIn K cStatics "thirdparty.any" = some none
section
variable {X : Cx} {Y : WY} {ρ : Rho} {D : Ed} {e : Expr} {p pos apos : Pos} {n x f : Str} {C : Addr} {te : TE}
def tMkF (C : Addr) (f : Str) (te : TE) : L2.St → Hp → XK → Prop := fun σ H Q => te σ H fun y H1 => ∀ d, H1 d = none → Q (.ref C) (some d) (upd H1 d (.xd [(f, y)]))
def ppF (C : Addr) (f : Str) (Q : XK) : List V → Hp → Prop
  | [y], H1 => ∀ d, H1 d = none → Q (.ref C) (some d) (upd H1 d (.xd [(f, y)]))
  | _, _ => False
theorem pmk_exf (Fx : ExF X.prog X.K X.mg n C x f) (hr : Room 1 X.A) (hg : Gl X n) (he : PE X e te) (hdb : (n == ("__debug__" : Str)) = false) (hs : starEach [e] X.env = (false, eval e X.env) :: starEach [] X.env) :
    PMk X (.Call (.Name n p) [e] [] pos) (tMkF C f te) := by
  intro pins s σ H Q I h
  obtain ⟨nm, q, N, bs, bm, sn, sub, ab, col, dd, k0, k1, k2, k3, k5, fI, cc, cda, qual, m, j, p0, p1, p2, p3, p4, p5, q0, q1, q2, q3, pa, pa', oc, ccl, dcl, kV, doc, pm, ct, od, ccd, dcd, an, osl, ccs, dcs, vs, file, tf, lC, hbm, iC, tI, lf, hcd, lcc, lcda, hvs, hfile, hsin, hmro, hVE, hev, hbind⟩ := Fx.ini
  obtain ⟨n1, n2, n3, n4, n5, n6⟩ := Fx.nms
  refine wpAny_Call_Name_kw (ld_glob I hg Fx.gC ?_ hdb)
  have ha : PA X [e] (tCons te tNil) := pa_cons he pa_nil hs
  refine PySem.W.callWith_K (h₀ := X.base) I.ok.mod.kin Fx.T.kC (thn (ha.run pos pins s σ H (ppF C f Q) I h) fun us s1 hh => ?_) hs rfl
  obtain ⟨ws, H1, I1, r1, hq⟩ := hh
  refine ⟨I1.kIn, ?_⟩
  match ws, us, r1, hq with
  | [y], [u], .cons ru .nil, hq =>
    have hq : ∀ d, H1 d = none → Q (.ref C) (some d) (upd H1 d (.xd [(f, y)])) := hq
    show wpAny _ _ (call (.ref C) [u]) _ _ _
    obtain ⟨hp, g, dr, tk, os⟩ := s1
    have hsz : hp.objs.size ≤ hp.objs.size + 1 := Nat.le_succ _
    have hn : H1 (hp.objs.size + 1) = none := I1.hok.fresh hsz
    have kk : ∀ b o, hp.get? b = some o → ((hp.push (PySem.W.kdv_tup [u])).push (PySem.HandSPX.excO C hp.objs.size)).get? b = some o := fun b o e => Heap.get?_push_of_some _ (Heap.get?_push_of_some _ e)
    have hget : ((hp.push (PySem.W.kdv_tup [u])).push (PySem.HandSPX.excO C hp.objs.size)).get? (hp.objs.size + 1) = some (PySem.HandSPX.excO C hp.objs.size) := by heap_get
    have hbe : X.base.get? (hp.objs.size + 1) = none := by
      cases z : X.base.get? (hp.objs.size + 1) with
      | none => rfl
      | some o => exact absurd (Heap.lt_size (I1.bk _ _ z)) (Nat.not_lt.mpr hsz)
    refine wpAny_call (PySem.HandSPX.call_own PySem.F.excBase_ValueError (fun Y => PySem.HandSPX.refsVE_contains Y bm hbm) (I1.kIn _ _ lC) (PySem.W.looks_findIn I1.kIn iC) (fun self => PySem.W.bind_fn I1.kIn self tI) (by show 1 ≤ sizeLine; rw [sizeLine_eq]; omega) ?_)
    refine init_code (X := I1.kIn.keeps kk) I1.ok.mod (fun b o z => kk _ _ (I1.bk b o z)) (hr.make C [u] []).depth lC hbm Fx.T.sa Fx.hno lf hcd lcc lcda hvs hfile Fx.htop Fx.hsup Fx.hany hsin hmro hVE n1 n2 n3 n4 n5 n6 (fun s => .of_eq (hbind _ _)) hev hget hbe ?_
    intro h' tk' dx t1 kp hdx hx hn'
    have I2 : Inv X pins σ (upd H1 (hp.objs.size + 1) (exo (hp.objs.size + 1) C none)) ⟨(hp.push (PySem.W.kdv_tup [u])).push (PySem.HandSPX.excO C hp.objs.size), g, dr, tk, os⟩ :=
      I1.laid (t' := tk) (a := hp.objs.size + 1) (o := exo (hp.objs.size + 1) C none) (h' := (hp.push (PySem.W.kdv_tup [u])).push (PySem.HandSPX.excO C hp.objs.size)) kk hsz (exo_ok hget)
    generalize (hp.push (PySem.W.kdv_tup [u])).push (PySem.HandSPX.excO C hp.objs.size) = hp2 at kk hget kp hdx I2
    generalize hp.objs.size + 1 = a at hsz hn hget hbe kp hx I2
    have e : upd H1 a (exo a C none) a = some (exo a C none) := upd_same
    have hnd : upd H1 a (exo a C none) dx = none := I2.hok.fresh hdx
    have hda : dx ≠ a := fun z => by
      rw [z, e] at hnd
      cases hnd
    have hd1 : H1 dx = none := by rw [upd_ne hda] at hnd; exact hnd
    have ok2 := I2.hok
    generalize hHe : upd H1 a (exo a C none) = H0 at e hnd ok2
    have nd : ∀ {b : Addr} {o : Obj}, hp2.get? b = some o → b ≠ dx := fun {b o} q => Nat.ne_of_lt (Nat.lt_of_lt_of_le (Heap.lt_size q) hdx)
    have na : ∀ {b : Addr}, H0 b = none → b ≠ a := fun {b} n z => by
      rw [z, e] at n
      cases n
    have un : Un (frs X.stack) [] H0 (upd (upd H0 dx (exd dx [(f, y)])) a (exo a C (some dx))) hp2 h' := {
      keep := fun b o q n _ _ => kp b o (na n) q
      slot := fun b o q n _ _ => ⟨o.slots, kp b o (na n) q⟩
      free := fun b o q n _ => by rw [upd_ne (na n), upd_ne (nd q)]; exact n
      there := fun b o q _ => by
        by_cases hb : b = a
        · exact ⟨_, by rw [hb]; exact hx⟩
        · exact ⟨o, kp b o hb q⟩
      tups := fun b xs q => by rw [upd_ne (at_ne e q exo_tup), upd_ne (ne_of_none q hnd)]; exact q
      frzs := fun b o v q => by rw [upd_ne (at_ne e q exo_frz), upd_ne (ne_of_none q hnd)]; exact q
      tbls := fun b ps q => ⟨#[], by rw [upd_ne (at_ne e q exo_tbl), upd_ne (ne_of_none q hnd), q]; simp⟩ }
    have hok : HOk X.prog X.w (upd (upd H0 dx (exd dx [(f, y)])) a (exo a C (some dx))) h' := fun b o q => by
      by_cases hb : b = a
      · subst hb
        rw [upd_same] at q
        cases q
        exact exo_ok hx
      · rw [upd_ne hb] at q
        by_cases hd : b = dx
        · subst hd
          rw [upd_same] at q
          cases q
          exact exd_ok hn' (relO_put (fs := []) ru fun g => True.intro)
        · rw [upd_ne hd] at q
          exact (ok2 b o q).stay (fun c v hc z => kp c v (by
              rcases hc with hc | hc
              · rw [hc]
                exact hb
              · exact at_ne e hc exo_own) z)
            (fun c hc => by rw [upd_ne (at_ne e hc exo_own), upd_ne (ne_of_none hc hnd)]; exact hc) (fun c xs hc => by rw [upd_ne (at_ne e hc exo_tup), upd_ne (ne_of_none hc hnd)]; exact hc)
    subst hHe
    refine ⟨rfl, mk_end (fs := [(f, y)]) (raises_own Fx.T.exC Fx.T.tyC) I1 hsz kk un hok rfl I1.bare upd_same (by rw [upd_ne hda]; exact upd_same) hd1 ?_⟩
    have eq : upd (del (upd (upd (upd H1 a (exo a C none)) dx (exd dx [(f, y)])) a (exo a C (some dx))) a) dx (.xd [(f, y)]) = upd H1 dx (.xd [(f, y)]) := by
      funext b
      by_cases hb : b = dx
      · rw [hb, upd_same, upd_same]
      · rw [upd_ne hb, upd_ne hb]
        by_cases ha' : b = a
        · rw [ha', del_same]; exact hn.symm
        · rw [del_ne ha', upd_ne ha', upd_ne hb, upd_ne ha']
    rw [eq]
    exact hq dx hd1
end
end Bs
set_option maxHeartbeats 2000000
namespace Bs
open PySem PySem.Spec PyProof.Rows L2
theorem Rel.setS {K : PySem.W.Frag} {B H : Hp} {ρ : Rho} {σ : L2.St} {i : Nat} {s : Sl} {o : Option V} (R : Rel K B ρ σ H) (hs : ∀ p ds, s ≠ .own p ds) (h : SlOk K B H s o) : Rel K B (ρ.set i s) (σ.set i o) H where
  up := R.up
  len := by rw [List.length_set, List.length_set]; exact R.len
  sl := fun j s' o' e1 e2 => by
    by_cases hj : i = j
    · subst hj
      have h1 : i < ρ.length := by have := (List.getElem?_eq_some_iff.mp e1).1; rw [List.length_set] at this; exact this
      rw [List.getElem?_set_self h1] at e1
      rw [List.getElem?_set_self (by rw [← R.len]; exact h1)] at e2
      cases e1; cases e2
      exact h
    · rw [List.getElem?_set_ne hj] at e1 e2
      exact R.sl j s' o' e1 e2
  one := fun j k p ds es e1 e2 => by
    have g : ∀ (j : Nat) (ds : List PyData), (ρ.set i s)[j]? = some (Sl.own p ds) → ρ[j]? = some (Sl.own p ds) := fun j ds e => by
      by_cases hj : i = j
      · subst hj
        have h1 : i < ρ.length := by have := (List.getElem?_eq_some_iff.mp e).1; rw [List.length_set] at this; exact this
        rw [List.getElem?_set_self h1] at e
        exact absurd (Option.some.inj e) (hs p ds)
      · rw [List.getElem?_set_ne hj] at e; exact e
    exact R.one j k p ds es (g j ds e1) (g k es e2)
section
variable {X : Cx} {Y : WY} {ρ : Rho} {D : Ed} {e : Expr} {p pos apos : Pos} {n x f : Str} {C : Addr}
/-- raise n(e), n's own __init__ keeping e in the field f -/
theorem w1_raiseF (Fx : ExF X.prog X.K X.mg n C x f) (hc : X.calm = true) (hr : Room 1 X.A) (hg : Gl X n) (hdb : (n == ("__debug__" : Str)) = false) (hs : starEach [e] X.env = (false, eval e X.env) :: starEach [] X.env)
    (h : WE X Y e ρ fun r ρ1 => ∃ d, r = .d d ∧ Y (.ref C) [(f, d)] ρ1) : W1 X Y (.Raise (some (.Call (.Name n p) [e] [] apos)) none pos) ρ D :=
  fun σ H B K' Wx tk rl q z pins s I => (ps_raise hc tk (pmk_exf Fx hr hg pe_sE hdb hs)).run pins s σ H K' I (h.run tk rl (fun v r B1 ρ1 H1 g1 rl1 vo1 hz => by
    obtain ⟨d, er, hy⟩ := hz
    subst er
    intro dd hdd
    exact z (.ref C) (some dd) (.ref C) [(f, d)] (upd B1 dd (.xd [(f, v)])) ρ1 σ (upd H1 dd (.xd [(f, v)])) rfl (g1.laid rl1.up hdd) (rl1.laid hdd) ⟨rfl, .inr ⟨dd, [(f, v)], rfl, upd_same, .cons ⟨rfl, Dp.up (Up.new (none_up rl1.up hdd)) vo1⟩ .nil⟩⟩ hy) z)
theorem xd_look {K : PySem.W.Frag} {B : Hp} {f : Str} {u : PyData} : ∀ {fs : Xf} {fv : List (Str × V)}, Paired (fun (p : Str × PyData) (q : Str × V) => p.1 = q.1 ∧ Dp K B q.2 p.2) fs fv → fs.lookup f = some u → ∃ v, fv.lookup f = some v ∧ Dp K B v u
  | _, _, .nil, h => by cases h
  | (g, d) :: fs, (g', v) :: fv, .cons hx t, h => by
    obtain ⟨rfl, dv⟩ : g = g' ∧ Dp K B v d := hx
    by_cases e : (f == g) = true
    · rw [List.lookup, e] at h ⊢
      cases h
      exact ⟨v, rfl, dv⟩
    · have e' : (f == g) = false := by simpa using e
      rw [List.lookup, e'] at h ⊢
      exact xd_look t h
/-- e.f in an except suite, e the caught exception -/
theorem we_exf {a : Addr} {oe : Obj} {cls : Value} {d : Option Addr} {pn : List (Addr × Obj)} {i : Nat} {en : Str} {fs : Xf} {u : PyData} {R : Rv → Rho → Prop} {np : Pos} (T : XfC X.K C) (hno : PySem.W.findIn X.K (.ref C) f = some none) (hz : Zc cls d oe) (hf : ∃ vs, oe.data = .fields vs) (hcl : cls = .ref C)
    (hN : X.N[i]? = some en) (hv : Vis X.env.scope en) (hd : (en == ("__debug__" : Str)) = false) (hcd : (en == ("__classdict__" : Str)) = false) (hi : ρ[i]? = some (.exn a d fs)) (hl : fs.lookup f = some u) (hb : attributeBase (.Name en np) f X.env (eval (.Name en np) X.env) = eval (.Name en np) X.env)
    (h : R (.d u) ρ) : WE (X.suite a ((a, oe) :: pn)) Y (.Attribute (.Name en np) f pos) ρ R :=
  WE.of (pe_xf T hno hz hf (pe_var (X := X.suite a ((a, oe) :: pn)) hN hv hd hcd) hb) fun σ H B Q Wx _ rl q _ => by
    have hil : i < σ.length := by rw [← rl.len]; exact (List.getElem?_eq_some_iff.mp hi).1
    obtain ⟨ev, xd⟩ := rl.sl i _ _ hi (List.getElem?_eq_getElem hil)
    refine ⟨.ref a, (List.getElem?_eq_getElem hil).trans (congrArg some ev), rfl, hcl, ?_⟩
    rcases xd with ⟨e1, _⟩ | ⟨dd, fv, e1, e2, pr⟩
    · rw [e1] at hl
      cases hl
    · obtain ⟨v, lv, dv⟩ := xd_look pr hl
      exact ⟨dd, fv, v, e1, rl.up _ _ e2, lv, q.here rl dv h⟩
/-! ### try, clauses with or without names -/
abbrev Cl (T : Type) := List (Value × Option Nat × T)
/-- the frame as a clause's suite finds it, and as the suite's ends are looked at -/
def slIn (o : Option Nat) (σ : L2.St) (a : Addr) : L2.St := match o with | none => σ | some i => σ.set i (some (.ref a))
def slOut (o : Option Nat) (σ : L2.St) : L2.St := match o with | none => σ | some i => σ.set i none
def endsOut (o : Option Nat) (D : Ends) : Ends := { nx := fun σ => D.nx (slOut o σ), rt := D.rt, bk := fun σ => D.bk (slOut o σ), ct := fun σ => D.ct (slOut o σ) }
abbrev TSx := Addr → Value → Option Addr → TS
/-- what is wanted where an exception meets these clauses -/
def meets (K : PySem.W.Frag) (W : WX) (D : Ends) : Cl TSx → WX
  | [] => W
  | (c, o, t) :: r => fun cls d σ H => ∃ b, PySem.W.exmOne K cls c = some b ∧ (b = true → ∀ a, H a = none → t a cls d (endsOut o D) (slIn o σ a) H) ∧ (b = false → meets K W D r cls d σ H)
/-- the clauses' text; a name: its slot and itself -/
inductive ClsT (X : Cx) (T : Type) (ok : List Stmt → T → Prop) : List ExceptHandler → Cl T → Prop
  | nil : ClsT X T ok [] []
  | cons {x : Str} {c : Value} {t : T} {st : Stmt} {su : List Stmt} {np pos' : Pos} {hds : List ExceptHandler} {l : Cl T} (o : Option (Nat × Str)) (hc : Names X x c) (ho : ∀ q, o = some q → X.N[q.1]? = some q.2 ∧ X.env.kindOf q.2 = some .local) (ht : ok (st :: su) t) (r : ClsT X T ok hds l) :
      ClsT X T ok (.ExceptHandler (some (.Name x np)) (o.map (·.2)) (st :: su) pos' :: hds) ((c, o.map (·.1), t) :: l)
def okSu (X : Cx) (su : List Stmt) (t : TSx) : Prop := ∀ (a : Addr) (oe : Obj) (cls : Value) (d : Option Addr) (pn : List (Addr × Obj)), Zc cls d oe → (∃ vs, oe.data = .fields vs) → PSs (X.suite a ((a, oe) :: pn)) su (t a cls d)
/-- a suite's end, whichever it is, is an end of the try -/
theorem sp_thru {M : Model} {A : Around} {X X' : Cx} {E : Value → Shared → Prop} {pins : List (Addr × Obj)} {o : Option Nat} {D : Ends} {f : Flow} {s : Shared} {m : Sem Unit} (h : SP X' [] (endsOut o D) f s) (go : ∀ {σ : L2.St} {H : Hp} {Q : Unit → Shared → Prop}, Inv X' [] σ H s → (∀ s', Inv X pins (slOut o σ) H s' → Q () s') → wpAny M A m Q E s) :
    wpAny M A m (fun _ s' => SP X pins D f s') E s := by
  cases f with
  | ret u => obtain ⟨v, σ, H, J, r, q⟩ := h; exact go J fun s' J' => ⟨v, _, H, J', r, q⟩
  | next => obtain ⟨σ, H, J, q⟩ := h; exact go J fun s' J' => ⟨_, H, J', q⟩
  | brk => obtain ⟨σ, H, J, q⟩ := h; exact go J fun s' J' => ⟨_, H, J', q⟩
  | cont => obtain ⟨σ, H, J, q⟩ := h; exact go J fun s' J' => ⟨_, H, J', q⟩
theorem sp_same {X X' : Cx} {pins pn' : List (Addr × Obj)} {D : Ends} {f : Flow} {s : Shared} (h : SP X' pn' D f s) (go : ∀ {σ : L2.St} {H : Hp}, Inv X' pn' σ H s → Inv X pins σ H s) : SP X pins D f s := by
  cases f with
  | ret u => obtain ⟨v, σ, H, J, r, q⟩ := h; exact ⟨v, σ, H, go J, r, q⟩
  | next => obtain ⟨σ, H, J, q⟩ := h; exact ⟨σ, H, go J, q⟩
  | brk => obtain ⟨σ, H, J, q⟩ := h; exact ⟨σ, H, go J, q⟩
  | cont => obtain ⟨σ, H, J, q⟩ := h; exact ⟨σ, H, go J, q⟩
theorem ps_try2 {body : List Stmt} {h0 : ExceptHandler} {hds : List ExceptHandler} {l : Cl TSx} {pos : Pos} {tb : WX → TS} {W : WX} (hs : X.stack = X.env :: X.outer) (hf : X.env.frame = some X.env.locals) (hN : X.N.Nodup) (tk : Takes X W)
    (hb : ∀ (W : WX) (pn : List (Addr × Obj)) (xe : Value → Shared → Prop), Takes (X.tr pn xe) W → PassesOwn (model X.prog X.w) X.A X.env xe → PSs (X.tr pn xe) body (tb W))
    (hh : ClsT X TSx (okSu X) (h0 :: hds) l) : PS X (.Try body (h0 :: hds) [] [] pos) (fun D σ H => tb (meets X.K W D l) D σ H) := by
  refine ⟨fun pins s σ H D I h => wpAny_Try_except ?_⟩
  have ok := I.ok
  have hfr : X.A.frames = some (X.env :: X.outer) := ok.frames.trans (congrArg some hs)
  let caught : Value → Shared → Prop := fun e s₁ => wpAny (model X.prog X.w) X.A (noteFrame e X.env) (fun _ s₂ => wpAny (model X.prog X.w) X.A (setFlight e none) (fun _ s₃ => wpAny (model X.prog X.w) X.A (handleBy e X.env (h0 :: hds)) (SP X pins D) X.xe s₃) X.xe s₂) X.xe s₁
  have run := (hb (meets X.K W D l) (X.pn ++ pins) caught (fun u s' xx => ?_) PassesOwn.looking).run [] s σ H D (I.toTry _) h
  · refine wpAny_mono run (fun f s1 z => ?_) fun _ _ z => z
    have z := sp_same (X := X) (pins := pins) z fun J => J.ofTry ok
    cases f with
    | next => exact wpAny_execs_nil z
    | ret u => exact z
    | brk => exact z
    | cont => exact z
  obtain ⟨a, B, sI, pins', σ', H', cls, d, rfl, J', nb, up, sky, na, os, ag, w⟩ := xx
  have J := J'.ofTry ok
  rw [show (X.tr (X.pn ++ pins) caught).stack = X.env :: X.outer from hs] at sky
  refine Sky.land Zc.steady hfr hf sky fun h3 fl3 up3 => ?_
  have J3 : Inv X pins σ' H' { s' with heap := h3 } := J.landed nb fl3.1 (up.trans up3) os ag
  obtain ⟨oe, vs, he, hz, hd⟩ := fl3.there
  have nfr : a ∉ frs (X.env :: X.outer) := fun hm => by
    obtain ⟨_, o', e', hnf⟩ := fl3.2.2.1.mem hm
    cases he.symm.trans e'
    exact hnf _ hd
  have nL : a ≠ X.env.locals := fun z => nfr (List.mem_filterMap.mpr ⟨X.env, .head _, hf.trans (congrArg some z.symm)⟩)
  have nF : a ∉ X.fs := fun hm => nfr (let ⟨e, he, q⟩ := List.mem_filterMap.mp hm; List.mem_filterMap.mpr ⟨e, .tail _ he, q⟩)
  have S3 := J3.suite he hd na nL nF
  have ty : PySem.W.Looks (model X.prog X.w) h3 (typeOf (.ref a)) cls := fun _ _ _ _ k q => wpAny_typeOf_ref (k _ _ he) (hz.1.symm ▸ q)
  have named : ∀ {x : Str} {c : Value} {np : Pos} {Q : Value → Shared → Prop} {E : Value → Shared → Prop}, Names X x c → Q c { s' with heap := h3 } → wpAny (model X.prog X.w) (X.A.mark (some (.ref a))) (eval (.Name x np) X.env) Q E { s' with heap := h3 } := fun {x c np Q E} hc q => by
    obtain ⟨hg, hdb, hm | ⟨hm, hv, hn⟩⟩ := hc
    · exact ld_glob (X := X.suite a ((a, oe) :: (X.pn ++ pins))) S3 hg hm q hdb
    · exact ld_blt (X := X.suite a ((a, oe) :: (X.pn ++ pins))) S3 hg hm hv q hn hdb
  suffices go : ∀ {hs' : List ExceptHandler} {l' : Cl TSx}, ClsT X TSx (okSu X) hs' l' → meets X.K W D l' cls d σ' H' → wpAny (model X.prog X.w) X.A (handleBy (.ref a) X.env hs') (SP X pins D) X.xe { s' with heap := h3 } from go hh w
  intro hs' l' hk
  induction hk with
  | nil =>
    intro w
    obtain ⟨_, _, _, _, _, T, _, _, he', _, hd', h1, _⟩ := id fl3
    have off : wpAny (model X.prog X.w) X.A (setFlight (.ref a) X.env.frame) (fun _ s4 => wpAny (model X.prog X.w) X.A (throw (.ref a) : Sem Flow) (SP X pins D) X.xe s4) X.xe { s' with heap := h3 } := by
      rw [hf]
      exact HandSPX.setFlight_upZ fl3 fun h4 hh4 up4 => wpAny_throw (tk _ _ ⟨a, B, sI, pins, σ', H', cls, d, rfl, J, nb, (up.trans up3).trans up4, .inr (.inr (hs.symm ▸ hh4)), na, os, ag, w⟩)
    refine wpAny_handleBy_nil ?_
    unfold PySem.passOn
    refine wpAny_bind (wpAny_field he' hd' h1 ?_)
    rw [if_neg (show ¬ ((Value.ref T == Value.none) = true) from by simp)]
    first
      | exact wpAny_bind (wpAny_pure (wpAny_bind off))
      | exact wpAny_bind off
  | @cons x c t st su np pos' hds2 l2 o hc ho ht r ih =>
    intro ⟨b, hb1, hyes, hno⟩
    refine wpAny_handleBy_cons (codeAny_handlers_test (named hc ((PySem.W.exm_one (M := model X.prog X.w) J3.kIn ty hb1).here ?_))) (by intro z; cases z)
    cases b with
    | false => exact ih (hno rfl)
    | true =>
      cases o with
      | none =>
        refine codeAny_handlers_suite (HandSPX.lands_againZ fl3 fun h4 fl4 up4 => ?_)
        obtain ⟨oe4, vs4, he4, hz4, hd4⟩ := fl4.there
        have J4 : Inv X pins σ' H' { s' with heap := h4 } := J.landed nb fl4.1 ((up.trans up3).trans up4) os ag
        have S4 := J4.suite he4 hd4 na nL nF
        refine wpAny_mono ((ht a oe4 cls d (X.pn ++ pins) hz4 ⟨_, hd4⟩).run [] _ _ H' _ S4 (hyes rfl a na)) (fun f s6 z => ?_) (fun _ _ z => False.elim z)
        exact sp_same (D := D) z fun S6 => S6.unsuite ok
      | some q =>
        obtain ⟨hi, hln⟩ := ho q rfl
        refine codeAny_handlers_suite_as (HandSPX.lands_againZ fl3 fun h4 fl4 up4 => ?_)
        obtain ⟨oe4, vs4, he4, hz4, hd4⟩ := fl4.there
        have J4 : Inv X pins σ' H' { s' with heap := h4 } := J.landed nb fl4.1 ((up.trans up3).trans up4) os ag
        have S4 := J4.suite he4 hd4 na nL nF
        refine store_ok (X := X.suite a ((a, oe4) :: (X.pn ++ pins))) (v := .ref a) S4 hN hi (.inl hln) rfl (fun s5 S5 => ?_) (.inr hln)
        refine wpAny_mono ((ht a oe4 cls d (X.pn ++ pins) hz4 ⟨_, hd4⟩).run [] s5 _ H' _ S5 (hyes rfl a na)) (fun f s6 z => ?_) (fun _ _ z => False.elim z)
        have fin := sp_thru (M := model X.prog X.w) (A := X.A) (E := X.xe) (X := X) (pins := pins) (m := do bindName X.env q.2 .none; unbindBehindTheSuite X.env q.2 pos') z fun S6 g => gone_ok (S6.unsuite ok) hN hi hln g
        cases f <;> exact fin
/-- the clauses over frames -/
def edGone (D : Ed) (i : Nat) : Ed := { nx := fun ρ => D.nx (ρ.set i .any), rt := D.rt, bk := fun ρ => D.bk (ρ.set i .any), ct := fun ρ => D.ct (ρ.set i .any) }
def edOut (D : Ed) : Option Nat → Ed
  | none => D
  | some i => edGone D i
def hY2 (X : Cx) (Y : WY) (D : Ed) : Cl (List Stmt) → WY
  | [] => Y
  | (cv, none, su) :: r => fun c fs ρ => ∃ b, PySem.W.exmOne X.K c cv = some b ∧ (b = true → ∀ a pn, WS (X.suite a pn) yNo su ρ D) ∧ (b = false → hY2 X Y D r c fs ρ)
  | (cv, some i, su) :: r => fun c fs ρ => ∃ b, PySem.W.exmOne X.K c cv = some b ∧ (b = true → ∀ a d oe pn, Zc c d oe → (∃ vs, oe.data = .fields vs) → WS (X.suite a ((a, oe) :: pn)) yNo su (ρ.set i (.exn a d fs)) (edGone D i)) ∧ (b = false → hY2 X Y D r c fs ρ)
theorem ClsT.to {hds : List ExceptHandler} {l : Cl (List Stmt)} (h : ClsT X (List Stmt) Eq hds l) : ClsT X TSx (okSu X) hds (l.map fun p => (p.1, p.2.1, tsOf X p.2.2)) := by
  induction h with
  | nil => exact .nil
  | cons o hc ho ht r ih =>
    subst ht
    exact .cons o hc ho (fun a oe cls d pn hz hd => ⟨fun pins s σ H D I h => h oe pn hz hd pins s I⟩) ih
theorem w1_try2 {body : List Stmt} {h0 : ExceptHandler} {hds : List ExceptHandler} {l : Cl (List Stmt)} (hs : X.stack = X.env :: X.outer) (hf : X.env.frame = some X.env.locals) (hN : X.N.Nodup) (hh : ClsT X (List Stmt) Eq (h0 :: hds) l)
    (h : ∀ pn xe, PassesOwn (model X.prog X.w) X.A X.env xe → WS (X.tr pn xe) (hY2 X Y D l) body ρ D) : W1 X Y (.Try body (h0 :: hds) [] [] pos) ρ D := by
  intro σ H B K' Wx tk rl q z pins s I
  have tb : ∀ (W : WX) (pn : List (Addr × Obj)) (xe : Value → Shared → Prop), Takes (X.tr pn xe) W → PassesOwn (model X.prog X.w) X.A X.env xe → PSs (X.tr pn xe) body (fun D σ H => ∀ pn xe, Takes (X.tr pn xe) W → PassesOwn (model X.prog X.w) X.A X.env xe → sS (X.tr pn xe) body D σ H) :=
    fun W pn xe tk po => ⟨fun pins s σ H D I h => h pn xe tk po pins s I⟩
  refine (ps_try2 (pos := pos) hs hf hN tk tb hh.to).run pins s σ H K' I fun pn xe tk' po => ?_
  refine (h pn xe po).run tk' rl ⟨q.nx, q.rt, q.bk, q.ct⟩ ?_
  have nox : ∀ {a : Addr} {d : Option Addr} {fs : Xf}, ∀ p ds, Sl.exn a d fs ≠ .own p ds := fun p ds z => by cases z
  have noa : ∀ p ds, Sl.any ≠ .own p ds := fun p ds z => by cases z
  have go : ∀ l : Cl (List Stmt), ∀ cls d c fs B' ρ' σ' H', σ'.length = σ.length → Go B ρ H B' ρ' H' → Rel X.K B' ρ' σ' H' → XOk X.K B' H' cls d c fs → hY2 X Y D l c fs ρ' → meets X.K Wx K' (l.map fun p => (p.1, p.2.1, tsOf X p.2.2)) cls d σ' H' := by
    intro l
    induction l with
    | nil => exact fun cls d c fs B' ρ' σ' H' hl g r xo y => z cls d c fs B' ρ' σ' H' hl g r xo y
    | cons p l ih =>
      obtain ⟨cv, o, su⟩ := p
      intro cls d c fs B' ρ' σ' H' hl g r xo hy0
      obtain ⟨rfl, xo2⟩ := id xo
      cases o with
      | none =>
        obtain ⟨b, eb, hy, hn⟩ := hy0
        refine ⟨b, eb, fun e a _ oe pn hz hd => ?_, fun e => ih cls d cls fs B' ρ' σ' H' hl g r ⟨rfl, xo2⟩ (hn e)⟩
        have qq := q.on g hl
        exact (hy e a ((a, oe) :: pn)).run takesNo r ⟨qq.nx, qq.rt, qq.bk, qq.ct⟩ (fun _ _ _ _ _ _ _ _ _ _ _ _ w => w.elim)
      | some i =>
        obtain ⟨b, eb, hy, hn⟩ := hy0
        refine ⟨b, eb, fun e a _ oe pn hz hd => ?_, fun e => ih cls d cls fs B' ρ' σ' H' hl g r ⟨rfl, xo2⟩ (hn e)⟩
        have qq := q.on g hl
        have r1 : Rel X.K B' (ρ'.set i (.exn a d fs)) (σ'.set i (some (.ref a))) H' := r.setS nox ⟨rfl, xo2⟩
        have g1 : Go B' ρ' H' B' (ρ'.set i (.exn a d fs)) H' := (Go.refl _ _ _).setD nox
        refine (hy e a d oe pn hz hd).run takesNo r1 ⟨fun σ2 B2 ρ2 H2 l2 g2 R2 n2 => ?_, fun v rr σ2 B2 ρ2 H2 l2 g2 R2 vo n2 => ?_, fun σ2 B2 ρ2 H2 l2 g2 R2 n2 => ?_, fun σ2 B2 ρ2 H2 l2 g2 R2 n2 => ?_⟩ (fun _ _ _ _ _ _ _ _ _ _ _ _ w => w.elim)
        · exact qq.nx (σ2.set i none) B2 (ρ2.set i .any) H2 (by rw [List.length_set]; exact l2.trans (List.length_set ..)) ((g1.trans g2).setD noa) (R2.setS noa trivial) n2
        · exact qq.rt v rr σ2 B2 ρ2 H2 (l2.trans (List.length_set ..)) (g1.trans g2) R2 vo n2
        · exact qq.bk (σ2.set i none) B2 (ρ2.set i .any) H2 (by rw [List.length_set]; exact l2.trans (List.length_set ..)) ((g1.trans g2).setD noa) (R2.setS noa trivial) n2
        · exact qq.ct (σ2.set i none) B2 (ρ2.set i .any) H2 (by rw [List.length_set]; exact l2.trans (List.length_set ..)) ((g1.trans g2).setD noa) (R2.setS noa trivial) n2
  exact go l
end
end Bs
set_option maxHeartbeats 2000000
namespace Bs
open PySem PySem.Spec PyProof.Rows L2
/-! ### a list lent as the second argument -/
theorem rel_cup2 {K : PySem.W.Frag} {B H : Hp} {ρ : Rho} {σ : L2.St} {i : Nat} {c : Addr} {cs : List PyData} {v0 : V} {d0 : PyData} {vs : List V} {rs : List Rv} (R : Rel K B ρ σ H) (hi : ρ[i]? = some (.own c cs)) (d : Dp K B v0 d0) (da : DpAll K B vs (rs.map Rv.dt)) :
    Rel K B (.dat d0 :: .own c cs :: datS rs) ((v0 :: V.ref c :: vs).map some) H := by
  have R2 := rel_cup R hi da
  refine ⟨R.up, congrArg (· + 1) R2.len, fun j s o e1 e2 => ?_, fun j k p ds es e1 e2 => ?_⟩
  · cases j with
    | zero =>
      have e1 : some (Sl.dat d0) = some s := e1
      have e2 : some (some v0) = some o := e2
      cases e1; cases e2
      exact ⟨v0, rfl, d⟩
    | succ j => exact R2.sl j s o e1 e2
  · cases j with
    | zero => exact absurd (show some (Sl.dat d0) = some (.own p ds) from e1) (fun z => by cases z)
    | succ j =>
      cases k with
      | zero => exact absurd (show some (Sl.dat d0) = some (.own p es) from e2) (fun z => by cases z)
      | succ k => exact congrArg (· + 1) (R2.one j k p ds es e1 e2)
theorem back_cup2 {K : PySem.W.Frag} {B H B' H' : Hp} {rs : List Rv} {as' ρ : Rho} {σ : L2.St} {i : Nat} {c : Addr} {cs cs' : List PyData} {d0 : PyData} {s0 : Sl} {v0 : V} {vs : List V} (R : Rel K B ρ σ H) (hi : ρ[i]? = some (.own c cs)) (g : Go B (.dat d0 :: .own c cs :: datS rs) H B' (s0 :: .own c cs' :: as') H')
    (R' : Rel K B' (s0 :: .own c cs' :: as') ((v0 :: V.ref c :: vs).map some) H') : Go B ρ H B' (ρ.set i (.own c cs')) H' ∧ Rel K B' (ρ.set i (.own c cs')) σ H' := by
  have eo : ∀ a, a ∈ owns (.dat d0 :: .own c cs :: datS rs) ↔ a = c := fun a => by
    constructor
    · intro h
      rcases List.mem_cons.mp (show a ∈ c :: owns (datS rs) from h) with h | h
      · exact h
      · rw [owns_dat] at h; cases h
    · intro h; exact List.mem_cons.mpr (.inl h)
  have e1 : ∀ a, a ∈ owns [Sl.own c cs] ↔ a = c := fun a => List.mem_singleton
  have hc : c ∈ owns [Sl.own c cs] := (e1 c).mpr rfl
  have g2 : Go B [Sl.own c cs] H B' [Sl.own c cs'] H' := ⟨g.gr, fun a h => g.fr a fun z => h ((e1 a).mpr ((eo a).mp z)), fun a o h => g.fm a o fun z => h ((e1 a).mpr ((eo a).mp z)), fun p hp => .inl (by rw [show p = c from List.mem_singleton.mp hp]; exact hc), g.th⟩
  have R2 : Rel K B' [Sl.own c cs'] [some (V.ref c)] H' := by
    refine ⟨R'.up, rfl, fun j s o h1 h2 => ?_, fun j k p ds es h1 h2 => ?_⟩
    · cases j with
      | zero => exact R'.sl 1 s o h1 h2
      | succ j => simp at h1
    · cases j with
      | zero =>
        cases k with
        | zero => rfl
        | succ k => simp at h2
      | succ j => simp at h1
  exact back_cup (rs := []) (vs := []) (as' := []) R hi g2 R2
section
variable {X : Cx} {Y : WY} {ρ : Rho} {D : Ed} {R : Rv → Rho → Prop} {a b c d e : Expr} {es rest : List Expr} {pos p pos' apos : Pos} {x y z u : Str} {ps : List Str} {sp : BSp}
/-- f(e, c, ..): the list of slot i lent as the second argument -/
theorem we_callM {ds : List Value} {dvs : List V} {drs : List Rv} (C : Cal X x ps ds sp) (hd : Vals dvs ds) (hdd : ∀ K B, DpAll K B dvs (drs.map Rv.dt)) (hg : Gl X x) (hdb : (x == ("__debug__" : Str)) = false) (he : starEach (e :: es) X.env = (false, eval e X.env) :: starEach es X.env) (hpl : (backTo pos (starEach es X.env)).any (·.1) = false)
    (h : WA X Y (e :: es) ρ fun rs ρ1 => ∃ d0 i c cs tl, rs = .d d0 :: .b i cs :: tl ∧ (∀ r ∈ tl, r.nob) ∧ ρ1[i]? = some (.own c cs) ∧ sp (.dat d0 :: .own c cs :: datS (tl ++ drs)) (fun r as' => ∃ s0 cs' t, as' = s0 :: .own c cs' :: t ∧ R r (ρ1.set i (.own c cs'))) (fun x fs as' => ∃ s0 cs' t, as' = s0 :: .own c cs' :: t ∧ Y x fs (ρ1.set i (.own c cs')))) :
    WE X Y (.Call (.Name x p) (e :: es) [] pos) ρ R := by
  obtain ⟨k, f, fd, F, hr, hm, hk, hb⟩ := C.ex
  intro σ H B Q Wx tk rl q z pins s I
  refine wpAny_Call_Name_kw (ld_glob I hg hm ?_ hdb)
  refine PySem.W.callWith_K (h₀ := X.base) I.ok.mod.kin hk ?_ he hpl
  have h1 := h σ H B (fun vs H1 => ∃ rs B1 ρ1, Go B ρ H B1 ρ1 H1 ∧ Rel X.K B1 ρ1 σ H1 ∧ VsOk X.K H B1 ρ1 H1 vs rs ∧ ∃ d0 i c cs tl, rs = .d d0 :: .b i cs :: tl ∧ (∀ r ∈ tl, r.nob) ∧ ρ1[i]? = some (.own c cs) ∧ sp (.dat d0 :: .own c cs :: datS (tl ++ drs)) (fun r as' => ∃ s0 cs' t, as' = s0 :: .own c cs' :: t ∧ R r (ρ1.set i (.own c cs'))) (fun x fs as' => ∃ s0 cs' t, as' = s0 :: .own c cs' :: t ∧ Y x fs (ρ1.set i (.own c cs')))) Wx tk rl (fun vs rs B' ρ' H' g r' vo _ y => ⟨rs, B', ρ', g, r', vo, y⟩) z
  refine thn (h1 pos pins s I) fun us s1 ⟨vs, H1, I1, rv, rs, B1, ρ1, g1, rl1, vo, d0, i, cc, cs, tl, er, nb, hi, hs⟩ => ⟨I1.kIn, ?_⟩
  subst er
  cases vo with
  | @cons v0 _ vs0 _ x0 t0 =>
    cases t0 with
    | @cons v1 _ vs' _ x1 t1 =>
      obtain ⟨p1, rfl, ep⟩ := x1
      rw [hi] at ep
      cases ep
      obtain ⟨B2, g2, rl2, da, u2⟩ := t1.freeze nb g1 rl1
      have da2 : DpAll X.K B2 (vs' ++ dvs) ((tl ++ drs).map Rv.dt) := by rw [List.map_append]; exact DpAll.app da (hdd _ _)
      refine run_fnB F hr C.gu hb I1 tk rv hd (rel_cup2 rl2 hi (Dp.up u2 x0) da2) hs (fun v H' hq => ?_) fun cls d H' hq => ?_
      · obtain ⟨r, B', as', g3, rl3, vo3, nb3, s0, cs', t, rfl, hR⟩ := hq
        obtain ⟨g4, rl4⟩ := back_cup2 rl2 hi g3 rl3
        have vo4 : VOk X.K H1 B' (ρ1.set i (.own cc cs')) H' v r := by
          cases r with
          | d d => exact vo3
          | b i ds => exact nb3.elim
          | n ds =>
            obtain ⟨p, ws, e, h0, hb', no, hp, a⟩ := vo3
            refine ⟨p, ws, e, h0, hb', fun w => ?_, hp, a⟩
            rcases owns_setN w with e2 | w
            · obtain ⟨_, us', hu⟩ := rl2.own_there (mem_owns.mpr ⟨i, cs, hi⟩)
              rw [e2, hu] at h0; cases h0
            · obtain ⟨_, us', hu⟩ := rl2.own_there w
              rw [hu] at h0; cases h0
        exact q v r B' _ H' (g2.trans g4) rl4 (vo4.org g2) hR
      · obtain ⟨c', fs, B', as', g3, rl3, xo, s0, cs', t, rfl, hY⟩ := hq
        obtain ⟨g4, rl4⟩ := back_cup2 rl2 hi g3 rl3
        exact z cls d c' fs B' _ σ H' rfl (g2.trans g4) rl4 xo hY
/-- a, b, c, d = e1, e2, e3, e4: data, a new list, data, data -/
theorem w1_par4 {tg : Expr} {k2 : Nat} {pt2 : Pos} (i j l m : Nat) (hg : PG X tg (gTup X.K 4 (gsN [i, j, l, m]))) (hs : swapsWithSole [tg] (.Tuple [a, b, c, d] k2 pt2) pos.line X.env = pure false) (hw : swappedStores [tg] (.Tuple [a, b, c, d] k2 pt2) X.env = pure none) (h1 : (assignEach [tg] X.env).map (·.2) = [assign tg X.env])
    (h : WA X Y [a, b, c, d] ρ fun rs ρ1 => ∃ d1 ds d3 d4, rs = [.d d1, .n ds, .d d3, .d d4] ∧ ∀ q, q ∉ owns ρ1 → D.nx ((((ρ1.set i (.dat d1)).set j (.own q ds)).set l (.dat d3)).set m (.dat d4))) : W1 X Y (.Assign [tg] (.Tuple [a, b, c, d] k2 pt2) pos) ρ D :=
  W1.of (ps_asg (pe_tup pa_sA) hg hs hw h1) fun σ H B C Wx tk rl q t => h σ H B _ Wx tk rl (fun vs rs B1 ρ1 H1 g1 rl1 vo ap hp => by
    obtain ⟨d1, ds, d3, d4, rfl, hp⟩ := hp
    cases vo with
    | @cons v1 _ _ _ x1 t1 =>
      cases t1 with
      | @cons v2 _ _ _ x2 t2 =>
        cases t2 with
        | @cons v3 _ _ _ x3 t3 =>
          cases t3 with
          | @cons v4 _ _ _ x4 t4 =>
            cases t4
            obtain ⟨q2, vs, rfl, h0, hb, no, hq, da⟩ := x2
            refine ⟨by show 4 ≤ sizeLine; rw [sizeLine_eq]; omega, fun pp hpp => ?_⟩
            have ne : q2 ≠ pp := ne_of_none hq hpp
            have g1' := g1.put (o := .tup [v1, .ref q2, v3, v4]) hpp
            have rl1' := rl1.put (o := .tup [v1, .ref q2, v3, v4]) hpp
            have no' : q2 ∉ owns (ρ1.set i (.dat d1)) := fun w => no (owns_setD nod w)
            have g2 := (((g1'.setD (i := i) (nod (d := d1))).setN (i := j) (p := q2) (ds := ds) h0).setD (i := l) (nod (d := d3))).setD (i := m) (nod (d := d4))
            have r2 := (((rl1'.setD (i := i) x1).setN (i := j) hb no' ((upd_ne ne).trans hq) da).setD (i := l) x3).setD (i := m) x4
            refine ⟨pp, [v1, .ref q2, v3, v4], rfl, .of upd_same, rfl, ?_⟩
            refine ⟨v1, _, rfl, .ref q2, _, rfl, v3, _, rfl, v4, _, rfl, rfl, ?_⟩
            exact q.nx _ B1 _ _ (by simp only [List.length_set]) g2 r2 (hp q2 no)) t
end
end Bs
set_option maxHeartbeats 2000000
namespace Bs
open PySem PySem.Spec PyProof.Rows L2
section
variable {X : Cx} {Y : WY} {ρ : Rho} {R : Rv → Rho → Prop} {e : Expr} {pos p cp : Pos} {x c : Str} {ps : List Str} {sp : BSp}
/-- f(c, e): the list of slot i lent, which e may change -/
theorem we_callE {i : Nat} {q : Addr} {cs0 : List PyData} (C : Cal X x ps [] sp) (hg : Gl X x) (hdb : (x == ("__debug__" : Str)) = false) (hN : X.N[i]? = some c) (hv : Vis X.env.scope c) (hd : (c == ("__debug__" : Str)) = false) (hcd : (c == ("__classdict__" : Str)) = false) (hi : ρ[i]? = some (.own q cs0))
    (he : starEach [.Name c cp, e] X.env = (false, eval (.Name c cp) X.env) :: starEach [e] X.env) (he2 : starEach [e] X.env = (false, eval e X.env) :: starEach [] X.env) (hpl : (backTo pos (starEach [e] X.env)).any (·.1) = false)
    (h : WE X Y e ρ fun r ρ1 => r.nob ∧ ∃ cs, ρ1[i]? = some (.own q cs) ∧ sp (.own q cs :: datS [r]) (fun r as' => ∃ cs' t, as' = .own q cs' :: t ∧ R r (ρ1.set i (.own q cs'))) (fun x fs as' => ∃ cs' t, as' = .own q cs' :: t ∧ Y x fs (ρ1.set i (.own q cs')))) : WE X Y (.Call (.Name x p) [.Name c cp, e] [] pos) ρ R := by
  obtain ⟨k, f, fd, F, hr, hm, hk, hb⟩ := C.ex
  intro σ H B Q Wx tk rl qq z pins s I
  have hil : i < σ.length := by rw [← rl.len]; exact (List.getElem?_eq_some_iff.mp hi).1
  obtain ⟨ev, _⟩ := rl.sl i _ _ hi (List.getElem?_eq_getElem hil)
  refine wpAny_Call_Name_kw (ld_glob I hg hm ?_ hdb)
  refine PySem.W.callWith_K (h₀ := X.base) I.ok.mod.kin hk ?_ he hpl
  have ha : PA X [.Name c cp, e] (tCons (tVar i) (tCons (sE X e) tNil)) := pa_cons (pe_var hN hv hd hcd) (pa_cons pe_sE pa_nil he2) he
  let T : List V → Hp → Prop := fun vs H1 => ∃ v r B1 ρ1, vs = [.ref q, v] ∧ Go B ρ H B1 ρ1 H1 ∧ Rel X.K B1 ρ1 σ H1 ∧ VOk X.K H B1 ρ1 H1 v r ∧ r.nob ∧ ∃ cs, ρ1[i]? = some (.own q cs) ∧ sp (.own q cs :: datS [r]) (fun r as' => ∃ cs' t, as' = .own q cs' :: t ∧ R r (ρ1.set i (.own q cs'))) (fun x fs as' => ∃ cs' t, as' = .own q cs' :: t ∧ Y x fs (ρ1.set i (.own q cs')))
  have h1 : tCons (tVar i) (tCons (sE X e) tNil) σ H T :=
    ⟨.ref q, (List.getElem?_eq_getElem hil).trans (congrArg some ev), h.run tk rl (fun v r B1 ρ1 H1 g1 rl1 vo hp => ⟨v, r, B1, ρ1, rfl, g1, rl1, vo, hp⟩) z⟩
  refine thn (ha.run pos pins s σ H T I h1) fun us s1 ⟨vs, H1, I1, rv, v, r, B1, ρ1, ews, g1, rl1, vo, nb, cs, hi1, hs⟩ => ⟨I1.kIn, ?_⟩
  subst ews
  obtain ⟨B2, g2, rl2, dv, _, _⟩ := VOk.freeze (fun i ds e => by rw [e] at nb; exact nb) g1 rl1 vo
  have da : DpAll X.K B2 [v] ([r].map Rv.dt) := .cons dv .nil
  refine run_fnB F hr C.gu hb I1 tk rv (dvs := []) .nil (rel_cup rl2 hi1 da) hs (fun v' H' hq => ?_) fun cls d H' hq => ?_
  · obtain ⟨r3, B', as', g3, rl3, vo3, nb3, cs', t, rfl, hR⟩ := hq
    obtain ⟨g4, rl4⟩ := back_cup rl2 hi1 g3 rl3
    have vo4 : VOk X.K H1 B' (ρ1.set i (.own q cs')) H' v' r3 := by
      cases r3 with
      | d d => exact vo3
      | b i ds => exact nb3.elim
      | n ds =>
        obtain ⟨pp, ws, e, h0, hb', no, hp, a⟩ := vo3
        refine ⟨pp, ws, e, h0, hb', fun w => ?_, hp, a⟩
        rcases owns_setN w with e2 | w
        · obtain ⟨_, us', hu⟩ := rl2.own_there (mem_owns.mpr ⟨i, cs, hi1⟩)
          rw [e2, hu] at h0; cases h0
        · obtain ⟨_, us', hu⟩ := rl2.own_there w
          rw [hu] at h0; cases h0
    exact qq v' r3 B' _ H' (g2.trans g4) rl4 (vo4.org g2) hR
  · obtain ⟨c', fs, B', as', g3, rl3, xo, cs', t, rfl, hY⟩ := hq
    obtain ⟨g4, rl4⟩ := back_cup rl2 hi1 g3 rl3
    exact z cls d c' fs B' _ σ H' rfl (g2.trans g4) rl4 xo hY
end
theorem fold_size (a : Array Nat) : ∀ (k : Nat) (acc : Array Nat), ((List.replicate k a).foldl (· ++ ·) acc).size = acc.size + k * a.size
  | 0, acc => by simp
  | k + 1, acc => by
    rw [List.replicate_succ, List.foldl_cons, fold_size a k, Array.size_append, Nat.succ_mul]
    omega
theorem mul_len (x : Str) (k : Nat) : (Txt.mul x (k : Int)).length ≤ x.length * k := by
  unfold Txt.mul
  split
  · exact Nat.zero_le _
  · rename_i h
    have hk : 1 ≤ k := by omega
    split
    · exact Nat.le_mul_of_pos_right _ hk
    · show ((List.replicate ((k : Int)).toNat x.cps).foldl (· ++ ·) #[]).size ≤ _
      rw [fold_size, Int.toNat_natCast]
      show 0 + k * x.cps.size ≤ x.cps.size * k
      rw [Nat.zero_add, Nat.mul_comm]
      exact Nat.le_refl _
theorem cutS_len (z : Str) (l u : Option Int) : (cutS z l u).length ≤ z.length := by
  unfold cutS
  show (List.take _ (List.drop _ z.cps.toList)).toArray.size ≤ z.cps.size
  rw [List.size_toArray, List.length_take, List.length_drop, Array.length_toList]
  omega
end Bs
set_option maxHeartbeats 4000000
namespace K
open PySem PySem.Spec PyProof.Rows L2 Bs
def top (i : Nat) : Stmt := PySem.Challenge.pw_everypairing_k03_where_web_texts_end.main.body.getD i (.Pass ⟨0, 0, 0, 0⟩)
abbrev s_is_text : Stmt := top 4
theorem sc_is_text : FnScope ["value"] ["value"] (defScope s_is_text) := ⟨rfl, rfl, rfl, by decide +kernel, rfl, by decide +kernel, by decide +kernel⟩
section
variable {P : Program} {w : World} {K : PySem.W.Frag} {mg : Str → Option Value} {base : Heap}
/-- a def of one datum, pure -/
def sp1 (f : PyData → PyData) : BSp := fun as R _ => ∃ d, as = [.dat d] ∧ R (.d (f d)) [.any]
theorem sp1_len {f : PyData → PyData} : ∀ as R Y, sp1 f as R Y → as.length = 1 := fun as R Y ⟨d, e, _⟩ => by rw [e]; rfl
theorem ok_is_text (T : TyNames K) (h : Has K mg "is_text" s_is_text ["value"]) : Df P w K mg base 1 "is_text" ["value"] (sp1 fun d => .bool (isStr d)) := by
  refine h.df (k := 0) sc_is_text sp1_len fun f cdv A outer s H E I as R Y ⟨d, e, hR⟩ => ?_
  subst e
  refine ws_cons ?_
  refine w1_ret ?_
  refine we_cmp (op_eqD (by exact room_u64 I.r)) o2_eq (nomark _) ?_
  refine we_clsName T rfl rfl ?_
  refine we_var 0 _ rfl (by first | exact Or.inl rfl | exact Or.inr (Or.inl rfl) | exact Or.inr (Or.inr rfl)) (by decide) (by decide) rfl ?_
  refine we_str ?_
  refine ⟨(by first | trivial | exact fun p h => h), _, (SEq.of (shp_ty d) (by decide +kernel) (eqv_str d)), ?_⟩
  refine ⟨_, Back.any (Back.nil), ?_⟩
  exact hR
def fitsPlace (n : Int) : PyData → Bool
  | .int i => decide (0 ≤ i) && decide (i < n)
  | _ => false
def spPlace : BSp := fun as R _ => ∃ n d, as = [.dat (.int n), .dat d] ∧ R (.d (.bool (fitsPlace n d))) [.any, .any]
theorem fitsPlace_no {n : Int} {d : PyData} (h : isInt d = false) : fitsPlace n d = false := by
  cases d <;> first | rfl | cases h
def ltI : PyData → PyData → Bool
  | .int i, .int j => decide (i < j)
  | _, _ => false
def fitsEnds (n : Int) : PyData → Bool
  | .tuple [x, y] => fitsPlace n x && (fitsPlace n y && ltI x y)
  | _ => false
def spEnds : BSp := fun as R _ => ∃ n d, as = [.dat (.int n), .dat d] ∧ R (.d (.bool (fitsEnds n d))) [.any, .any]
theorem fitsPlace_int {n : Int} {d : PyData} (h : fitsPlace n d = true) : ∃ i, d = .int i := by
  cases d <;> first | exact ⟨_, rfl⟩ | cases h
theorem fitsEnds_nt {n : Int} {d : PyData} (h : isTup d = false) : fitsEnds n d = false := by
  cases d <;> first | rfl | cases h
theorem fitsEnds_n2 {n : Int} {ds : List PyData} (h : (ds.length : Int) ≠ 2) : fitsEnds n (.tuple ds) = false := by
  match ds, h with
  | [x, y], h => exact absurd rfl h
  | [], _ => rfl
  | [_], _ => rfl
  | _ :: _ :: _ :: _, _ => rfl
theorem fitsEnds_nx {n : Int} {x y : PyData} (h : isInt x = false) : fitsEnds n (.tuple [x, y]) = false := by
  cases x <;> first | rfl | cases h
theorem fitsEnds_ny {n : Int} {x y : PyData} (h : isInt y = false) : fitsEnds n (.tuple [x, y]) = false := by
  have e : fitsPlace n y = false := by cases y <;> first | rfl | cases h
  show (fitsPlace n x && (fitsPlace n y && ltI x y)) = false
  rw [e]; cases fitsPlace n x <;> rfl
theorem fitsEnds_ii (n i j : Int) : fitsEnds n (.tuple [.int i, .int j]) = (decide (0 ≤ i) && (decide (i < j) && decide (j < n))) := by
  show ((decide (0 ≤ i) && decide (i < n)) && ((decide (0 ≤ j) && decide (j < n)) && decide (i < j))) = _
  rw [Bool.eq_iff_iff]
  simp only [Bool.and_eq_true, decide_eq_true_eq]
  omega
end
end K

set_option maxHeartbeats 4000000
namespace K
open PySem PySem.Spec PyProof.Rows L2 Bs
section
variable {P : Program} {w : World} {K : PySem.W.Frag} {mg : Str → Option Value} {base : Heap}
def spAsc : BSp := fun as R _ => ∃ ds, as = [.dat (.tuple ds)] ∧ (∀ d ∈ ds, IntsT d) ∧ ds.length ≤ 90000 ∧ R (.d (.bool (asc ds))) [.any]
def fitsAll (n : Int) : PyData → Bool
  | .tuple ds => ds.all (fitsEnds n) && asc ds
  | _ => false
def SmT : PyData → Prop
  | .tuple ds => ds.length ≤ 90000
  | _ => True
theorem fitsEnds_ints {n : Int} {d : PyData} (h : fitsEnds n d = true) : ∃ i j : Int, d = .tuple [.int i, .int j] ∧ 0 ≤ i ∧ i < j ∧ j < n := by
  match d, h with
  | .tuple [x, y], h =>
    have h : (fitsPlace n x && (fitsPlace n y && ltI x y)) = true := h
    rw [Bool.and_eq_true, Bool.and_eq_true] at h
    obtain ⟨hx, hy, hl⟩ := h
    obtain ⟨i, rfl⟩ := fitsPlace_int hx
    obtain ⟨j, rfl⟩ := fitsPlace_int hy
    have hx : (decide (0 ≤ i) && decide (i < n)) = true := hx
    have hy : (decide (0 ≤ j) && decide (j < n)) = true := hy
    have hl : decide (i < j) = true := hl
    rw [Bool.and_eq_true, decide_eq_true_eq, decide_eq_true_eq] at hx hy
    exact ⟨i, j, rfl, hx.1, of_decide_eq_true hl, hy.2⟩
theorem fitsAll_nt {n : Int} {d : PyData} (h : isTup d = false) : fitsAll n d = false := by
  cases d <;> first | rfl | cases h
def spAll : BSp := fun as R _ => ∃ n d, as = [.dat (.int n), .dat d] ∧ SmT d ∧ R (.d (.bool (fitsAll n d))) [.any, .any]
def SmW : PyData → Prop
  | .tuple [_, t] => SmT t
  | _ => True
def fitsWeb : PyData → Bool
  | .tuple [.int n, t] => decide (1 ≤ n) && (decide (n ≤ 12) && fitsAll n t)
  | _ => false
theorem fitsWeb_nt {d : PyData} (h : isTup d = false) : fitsWeb d = false := by
  cases d <;> first | rfl | cases h
theorem fitsWeb_n2 {ds : List PyData} (h : (ds.length : Int) ≠ 2) : fitsWeb (.tuple ds) = false := by
  match ds, h with
  | [x, y], h => exact absurd rfl h
  | [], _ => rfl
  | [_], _ => simp [fitsWeb]
  | _ :: _ :: _ :: _, _ => simp [fitsWeb]
theorem fitsWeb_ni {x t : PyData} (h : isInt x = false) : fitsWeb (.tuple [x, t]) = false := by
  cases x <;> first | rfl | cases h
def spWeb : BSp := fun as R _ => ∃ d, as = [.dat d] ∧ SmW d ∧ R (.d (.bool (fitsWeb d))) [.any]
def spCheck (C : Addr) : BSp := fun as R Y => ∃ d, as = [.dat d] ∧ SmW d ∧ (fitsWeb d = true → R (.d .none) [.any]) ∧ (fitsWeb d = false → Y (.ref C) [] [.any])
end
end K

set_option maxHeartbeats 4000000
namespace K
open PySem PySem.Spec PyProof.Rows L2 Bs
abbrev s_law_cup : Stmt := top 12
abbrev s_law_sip : Stmt := top 13
abbrev s_law_web : Stmt := top 15
theorem sc_law_cup : FnScope ["_law_cell"] ["_law_cell"] (defScope s_law_cup) := ⟨rfl, rfl, rfl, by decide +kernel, rfl, by decide +kernel, by decide +kernel⟩
theorem sc_law_sip : FnScope ["_law_cup_here", "_law_many", "_law_drop"] ["_law_cup_here", "_law_many"] (defScope s_law_sip) := ⟨rfl, rfl, rfl, by decide +kernel, rfl, by decide +kernel, by decide +kernel⟩
theorem sc_law_web : FnScope ["_law_cup_here", "_law_many", "_law_dense", "_law_ties", "_law_x", "_law_y"] ["_law_cup_here", "_law_many"] (defScope s_law_web) := ⟨rfl, rfl, rfl, by decide +kernel, rfl, by decide +kernel, by decide +kernel⟩
section
variable {P : Program} {w : World} {K : PySem.W.Frag} {mg : Str → Option Value} {base : Heap}
def Cup (cs : List PyData) : Prop := ∃ a b : Int, cs = [.int a, .int b] ∧ 0 ≤ a ∧ 0 ≤ b ∧ b < 4294967296
def spCup : BSp := fun as R _ => ∃ c : Int, as = [.dat (.int c)] ∧ ∀ cs, Cup cs → R (.n cs) [.any]
theorem ok_law_cup (M : NoSh mg) (h : Has K mg "_law_cup" s_law_cup ["_law_cell"]) : Df P w K mg base 1 "_law_cup" ["_law_cell"] spCup := by
  refine h.df (k := 0) sc_law_cup (fun as R Y ⟨d, e, _⟩ => by rw [e]; rfl) fun f cdv A outer s H E I as R Y ⟨c, e, hR⟩ => ?_
  subst e
  have nd := sc_law_cup.nd
  have hm : 0 ≤ c % 2147483629 ∧ c % 2147483629 < 2147483629 := ⟨Int.emod_nonneg _ (by decide), Int.emod_lt_of_pos _ (by decide)⟩
  refine ws_cons ?_
  refine w1_ret ?_
  refine we_lst ?_
  refine wa_cons rfl ?_
  refine we_if ?_
  refine wt_cmp op_ge o2_C (nomark _) ?_
  refine we_var 0 _ rfl (by first | exact Or.inl rfl | exact Or.inr (Or.inl rfl) | exact Or.inr (Or.inr rfl)) (by decide) (by decide) rfl ?_
  refine we_op2 op_pow o2_I ?_
  refine we_int ?_
  refine we_int ?_
  refine ⟨(by first | trivial | exact fun p h => h), _, (.mk 10 18 ⟨by decide, by decide, by decide⟩), ?_⟩
  refine ⟨(by first | trivial | exact fun p h => h), _, (by constructor), ?_⟩
  refine ⟨fun hb => ?_, fun hb => ?_⟩
  · have hb : (10 ^ (18 : Int).toNat : Int) ≤ c := of_decide_eq_true hb
    refine we_op2 op_sub o2_I0 ?_
    refine we_callTy call_int1 oN_int rfl (M _ (by decide)) rfl (by decide) (by decide) rfl rfl ?_
    refine wa_cons rfl ?_
    refine we_var 0 _ rfl (by first | exact Or.inl rfl | exact Or.inr (Or.inl rfl) | exact Or.inr (Or.inr rfl)) (by decide) (by decide) rfl ?_
    refine wa_nil ?_
    refine ⟨(by first | trivial | exact fun p h => h), ?_⟩
    refine ⟨_, .int c, ?_⟩
    refine we_op2 op_pow o2_I ?_
    refine we_int ?_
    refine we_int ?_
    refine ⟨(by first | trivial | exact fun p h => h), _, (.mk 10 18 ⟨by decide, by decide, by decide⟩), ?_⟩
    refine ⟨(by first | trivial | exact fun p h => h), _, (.mk _ _ trivial), ?_⟩
    refine wa_cons rfl ?_
    refine we_op2 op_addA o2_add ?_
    refine we_op2 op_mod o2_I ?_
    refine we_callTy call_int1 oN_int rfl (M _ (by decide)) rfl (by decide) (by decide) rfl rfl ?_
    refine wa_cons rfl ?_
    refine we_var 0 _ rfl (by first | exact Or.inl rfl | exact Or.inr (Or.inl rfl) | exact Or.inr (Or.inr rfl)) (by decide) (by decide) rfl ?_
    refine wa_nil ?_
    refine ⟨(by first | trivial | exact fun p h => h), ?_⟩
    refine ⟨_, .int c, ?_⟩
    refine we_int ?_
    refine ⟨(by first | trivial | exact fun p h => h), _, (.mk _ _ (by decide)), ?_⟩
    refine we_int ?_
    refine ⟨(by first | trivial | exact fun p h => h), _, (.int _ _), ?_⟩
    refine wa_nil ?_
    refine ⟨(by first | trivial | exact fun p h => h), (by first | trivial | exact fun p h => h), ?_⟩
    refine ⟨nb_of ⟨trivial, trivial, trivial⟩, Nat.le_of_ble_eq_true rfl, ?_⟩
    refine ⟨_, Back.any (Back.nil), ?_⟩
    exact hR _ ⟨_, _, rfl, by omega, by omega, by omega⟩
  · refine we_int ?_
    refine wa_cons rfl ?_
    refine we_op2 op_addA o2_add ?_
    refine we_op2 op_mod o2_I ?_
    refine we_callTy call_int1 oN_int rfl (M _ (by decide)) rfl (by decide) (by decide) rfl rfl ?_
    refine wa_cons rfl ?_
    refine we_var 0 _ rfl (by first | exact Or.inl rfl | exact Or.inr (Or.inl rfl) | exact Or.inr (Or.inr rfl)) (by decide) (by decide) rfl ?_
    refine wa_nil ?_
    refine ⟨(by first | trivial | exact fun p h => h), ?_⟩
    refine ⟨_, .int c, ?_⟩
    refine we_int ?_
    refine ⟨(by first | trivial | exact fun p h => h), _, (.mk _ _ (by decide)), ?_⟩
    refine we_int ?_
    refine ⟨(by first | trivial | exact fun p h => h), _, (.int _ _), ?_⟩
    refine wa_nil ?_
    refine ⟨(by first | trivial | exact fun p h => h), (by first | trivial | exact fun p h => h), ?_⟩
    refine ⟨nb_of ⟨trivial, trivial, trivial⟩, Nat.le_of_ble_eq_true rfl, ?_⟩
    refine ⟨_, Back.any (Back.nil), ?_⟩
    exact hR _ ⟨_, _, rfl, by omega, by omega, by omega⟩
def spSip : BSp := fun as R _ => ∃ p cs m, as = [.own p cs, .dat (.int m)] ∧ Cup cs ∧ 1 ≤ m ∧ m < 1000000 ∧ ∀ cs' k, Cup cs' → 0 ≤ k → k < m → R (.d (.int k)) [.own p cs', .any]
theorem ok_law_sip (M : NoSh mg) (h : Has K mg "_law_sip" s_law_sip ["_law_cup_here", "_law_many"]) : Df P w K mg base 1 "_law_sip" ["_law_cup_here", "_law_many"] spSip := by
  refine h.df (k := 0) sc_law_sip (fun as R Y ⟨p, cs, m, e, _⟩ => by rw [e]; rfl) fun f cdv A outer s H E I as R Y ⟨p, cs, m, e, ⟨a, b, e2, ha, hb0, hb1⟩, hm0, hm1, hR⟩ => ?_
  subst e e2
  have nd := sc_law_sip.nd
  refine ws_cons ?_
  refine w1_if ?_
  refine wt_cmp op_gt o2_C (nomark _) ?_
  refine we_ix ix_seq o2_ix (fun _ _ => rfl) ?_
  refine we_bor 0 _ _ rfl (by first | exact Or.inl rfl | exact Or.inr (Or.inl rfl) | exact Or.inr (Or.inr rfl)) (by decide) (by decide) rfl ?_
  refine we_int ?_
  refine ⟨(by first | trivial | exact fun p h => h), _, (.lst _ _ (.int a) rfl), ?_⟩
  refine we_int ?_
  refine ⟨(by first | trivial | exact fun p h => h), _, (by constructor), ?_⟩
  refine ⟨fun hb => ?_, fun hb => ?_⟩
  · have hb : (0 : Int) < a := of_decide_eq_true hb
    refine ws_cons ?_
    refine w1_set 2 nd rfl (by first | exact Or.inl rfl | exact Or.inr rfl) rfl (by first | exact Or.inl rfl | exact Or.inr rfl) ?_
    refine we_op2 op_mod o2_I ?_
    refine we_callTy call_int1 oN_int rfl (M _ (by decide)) rfl (by decide) (by decide) rfl rfl ?_
    refine wa_cons rfl ?_
    refine we_ix ix_seq o2_ix (fun _ _ => rfl) ?_
    refine we_bor 0 _ _ rfl (by first | exact Or.inl rfl | exact Or.inr (Or.inl rfl) | exact Or.inr (Or.inr rfl)) (by decide) (by decide) rfl ?_
    refine we_int ?_
    refine ⟨(by first | trivial | exact fun p h => h), _, (.lst _ _ (.int a) rfl), ?_⟩
    refine wa_nil ?_
    refine ⟨(by first | trivial | exact fun p h => h), ?_⟩
    refine ⟨_, .int a, ?_⟩
    refine we_var 1 _ rfl (by first | exact Or.inl rfl | exact Or.inr (Or.inl rfl) | exact Or.inr (Or.inr rfl)) (by decide) (by decide) rfl ?_
    refine ⟨(by first | trivial | exact fun p h => h), _, (.mk _ _ (by omega)), ?_⟩
    refine ws_cons ?_
    refine w1_setItem 0 rfl (by first | exact Or.inl rfl | exact Or.inr (Or.inl rfl) | exact Or.inr (Or.inr rfl)) (by decide) (by decide) (fun _ => rfl) rfl rfl rfl ?_
    refine we_op2 op_fdiv o2_I ?_
    refine we_ix ix_seq o2_ix (fun _ _ => rfl) ?_
    refine we_bor 0 _ _ rfl (by first | exact Or.inl rfl | exact Or.inr (Or.inl rfl) | exact Or.inr (Or.inr rfl)) (by decide) (by decide) rfl ?_
    refine we_int ?_
    refine ⟨(by first | trivial | exact fun p h => h), _, (.lst _ _ (.int a) rfl), ?_⟩
    refine we_var 1 _ rfl (by first | exact Or.inl rfl | exact Or.inr (Or.inl rfl) | exact Or.inr (Or.inr rfl)) (by decide) (by decide) rfl ?_
    refine ⟨(by first | trivial | exact fun p h => h), _, (.mk _ _ ⟨by omega, by omega⟩), ?_⟩
    refine ⟨trivial, p, [.int a, .int b], rfl, ?_⟩
    refine we_int ?_
    refine ⟨0, 0, [.int a, .int b], rfl, rfl, rfl, ?_⟩
    refine ws_cons ?_
    refine w1_ret ?_
    refine we_var 2 _ rfl (by first | exact Or.inl rfl | exact Or.inr (Or.inl rfl) | exact Or.inr (Or.inr rfl)) (by decide) (by decide) rfl ?_
    refine ⟨_, .own (.any .nil), ?_⟩
    exact hR _ _ ⟨a / m, b, rfl, Int.ediv_nonneg ha (by omega), hb0, hb1⟩ (Int.emod_nonneg _ (by omega)) (Int.emod_lt_of_pos _ (by omega))
  · refine ws_nil ?_
    refine ws_cons ?_
    refine w1_setItem 0 rfl (by first | exact Or.inl rfl | exact Or.inr (Or.inl rfl) | exact Or.inr (Or.inr rfl)) (by decide) (by decide) (fun _ => rfl) rfl rfl rfl ?_
    refine we_op2 op_mod o2_I ?_
    refine we_callTy call_int1 oN_int rfl (M _ (by decide)) rfl (by decide) (by decide) rfl rfl ?_
    refine wa_cons rfl ?_
    refine we_op2 op_mul o2_I ?_
    refine we_ix ix_seq o2_ix (fun _ _ => rfl) ?_
    refine we_bor 0 _ _ rfl (by first | exact Or.inl rfl | exact Or.inr (Or.inl rfl) | exact Or.inr (Or.inr rfl)) (by decide) (by decide) rfl ?_
    refine we_int ?_
    refine ⟨(by first | trivial | exact fun p h => h), _, (.lst _ _ (.int b) rfl), ?_⟩
    refine we_int ?_
    refine ⟨(by first | trivial | exact fun p h => h), _, (.mk _ _ (.inl ⟨by omega, by omega⟩)), ?_⟩
    refine wa_nil ?_
    refine ⟨(by first | trivial | exact fun p h => h), ?_⟩
    refine ⟨_, .int _, ?_⟩
    refine we_int ?_
    refine ⟨(by first | trivial | exact fun p h => h), _, (.mk _ _ (by decide)), ?_⟩
    refine ⟨trivial, p, [.int a, .int b], rfl, ?_⟩
    refine we_int ?_
    refine ⟨1, 1, [.int a, .int b], rfl, rfl, rfl, ?_⟩
    have n0 : 0 ≤ b * 69621 % 2147483647 := Int.emod_nonneg _ (by decide)
    have n1 : b * 69621 % 2147483647 < 2147483647 := Int.emod_lt_of_pos _ (by decide)
    generalize b * 69621 % 2147483647 = b2 at n0 n1
    refine ws_cons ?_
    refine w1_ret ?_
    refine we_op2 op_mod o2_I ?_
    refine we_op2 op_fdiv o2_I ?_
    refine we_op2 op_mod o2_I ?_
    refine we_callTy call_int1 oN_int rfl (M _ (by decide)) rfl (by decide) (by decide) rfl rfl ?_
    refine wa_cons rfl ?_
    refine we_op2 op_mul o2_I ?_
    refine we_ix ix_seq o2_ix (fun _ _ => rfl) ?_
    refine we_bor 0 _ _ rfl (by first | exact Or.inl rfl | exact Or.inr (Or.inl rfl) | exact Or.inr (Or.inr rfl)) (by decide) (by decide) rfl ?_
    refine we_int ?_
    refine ⟨(by first | trivial | exact fun p h => h), _, (.lst _ _ (.int b2) rfl), ?_⟩
    refine we_ix ix_seq o2_ix (fun _ _ => rfl) ?_
    refine we_bor 0 _ _ rfl (by first | exact Or.inl rfl | exact Or.inr (Or.inl rfl) | exact Or.inr (Or.inr rfl)) (by decide) (by decide) rfl ?_
    refine we_int ?_
    refine ⟨(by first | trivial | exact fun p h => h), _, (.lst _ _ (.int b2) rfl), ?_⟩
    refine ⟨(by first | trivial | exact fun p h => h), _, (.mk _ _ (.inl ⟨by omega, by omega⟩)), ?_⟩
    refine wa_nil ?_
    refine ⟨(by first | trivial | exact fun p h => h), ?_⟩
    refine ⟨_, .int _, ?_⟩
    refine we_int ?_
    refine ⟨(by first | trivial | exact fun p h => h), _, (.mk _ _ (by decide)), ?_⟩
    refine we_int ?_
    refine ⟨(by first | trivial | exact fun p h => h), _, (.mk _ _ ⟨by decide, by decide⟩), ?_⟩
    refine we_var 1 _ rfl (by first | exact Or.inl rfl | exact Or.inr (Or.inl rfl) | exact Or.inr (Or.inr rfl)) (by decide) (by decide) rfl ?_
    refine ⟨(by first | trivial | exact fun p h => h), _, (.mk _ _ (by omega)), ?_⟩
    refine ⟨_, .own (.any .nil), ?_⟩
    exact hR _ _ ⟨a, b2, rfl, ha, n0, by omega⟩ (Int.emod_nonneg _ (by omega)) (Int.emod_lt_of_pos _ (by omega))
/-! webs -/
abbrev Tie := Int × Int
def tieD (t : Tie) : PyData := .tuple [.int t.1, .int t.2]
def tiesD (ts : List Tie) : List PyData := ts.map tieD
def webD (m : Int) (ts : List Tie) : PyData := .tuple [.int m, .tuple (tiesD ts)]
def TLt (s t : Tie) : Prop := s.1 < t.1 ∨ (s.1 = t.1 ∧ s.2 < t.2)
structure IsW (m : Int) (ts : List Tie) : Prop where
  fit : ∀ t ∈ ts, 0 ≤ t.1 ∧ t.1 < t.2 ∧ t.2 < m
  asc : ts.Pairwise TLt
/-- strictly rising and below k: at most k -/
theorem rise_len : ∀ (xs : List Nat) (k : Nat), xs.Pairwise (· < ·) → (∀ x ∈ xs, x < k) → xs.length ≤ k
  | [], _, _, _ => Nat.zero_le _
  | x :: xs, 0, _, hb => absurd (hb x List.mem_cons_self) (Nat.not_lt_zero _)
  | x :: xs, k + 1, hp, hb => by
    have h := rise_len (xs.map (· - 1)) k (by
      rw [List.pairwise_map]
      refine List.Pairwise.imp_of_mem ?_ (List.pairwise_cons.mp hp).2
      intro a b ha hb' hab
      have := (List.pairwise_cons.mp hp).1 a ha
      omega) (fun y hy => by
        obtain ⟨z, hz, rfl⟩ := List.mem_map.mp hy
        have h1 := hb z (List.mem_cons_of_mem _ hz)
        have h2 := (List.pairwise_cons.mp hp).1 z hz
        omega)
    rw [List.length_map] at h
    exact Nat.succ_le_succ h
theorem IsW.len {m : Int} {ts : List Tie} (h : IsW m ts) (hm : m ≤ 12) : ts.length ≤ 144 := by
  have := rise_len (ts.map fun t => (t.1 * 12 + t.2).toNat) 144 (by
    rw [List.pairwise_map]
    refine List.Pairwise.imp_of_mem ?_ h.asc
    intro a b ha hb hab
    have h1 := h.fit a ha
    have h2 := h.fit b hb
    rcases hab with h3 | ⟨h3, h4⟩ <;> omega) (fun x hx => by
      obtain ⟨t, ht, rfl⟩ := List.mem_map.mp hx
      have := h.fit t ht
      omega)
  rwa [List.length_map] at this
theorem IsW.snoc {m : Int} {ts : List Tie} {t : Tie} (h : IsW m ts) (hf : 0 ≤ t.1 ∧ t.1 < t.2 ∧ t.2 < m) (hl : ∀ s ∈ ts, TLt s t) : IsW m (ts ++ [t]) :=
  ⟨fun s hs => (List.mem_append.mp hs).elim (h.fit s) fun e => by rw [List.mem_singleton.mp e]; exact hf, List.pairwise_append.mpr ⟨h.asc, List.pairwise_singleton _ _, fun a ha b hb => by rw [List.mem_singleton.mp hb]; exact hl a ha⟩⟩
theorem tiesD_snoc (ts : List Tie) (x y : Int) : tiesD ts ++ [.tuple [.int x, .int y]] = tiesD (ts ++ [(x, y)]) := by
  unfold tiesD
  rw [List.map_append]
  rfl
def spLWeb : BSp := fun as R _ => ∃ p cs m, as = [.own p cs, .dat (.int m)] ∧ Cup cs ∧ 1 ≤ m ∧ m ≤ 12 ∧ ∀ cs' ts, Cup cs' → IsW m ts → R (.d (webD m ts)) [.own p cs', .any]
theorem ok_law_web (M : NoSh mg) (D1 : Df P w K mg base 1 "_law_sip" ["_law_cup_here", "_law_many"] spSip) (h : Has K mg "_law_web" s_law_web ["_law_cup_here", "_law_many"]) : Df P w K mg base 2 "_law_web" ["_law_cup_here", "_law_many"] spLWeb := by
  refine h.df (k := 1) sc_law_web (fun as R Y ⟨p, cs, m, e, _⟩ => by rw [e]; rfl) fun f cdv A outer s H E I as R Y ⟨p, cs, m, e, hc, hm0, hm1, hR⟩ => ?_
  subst e
  have nd := sc_law_web.nd
  refine ws_cons ?_
  refine w1_par 2 3 rfl nd rfl rfl (by decide) rfl rfl rfl rfl ?_
  refine wa_cons rfl ?_
  refine we_op2 op_addA o2_add ?_
  refine we_int ?_
  refine we_callC (Df.cal D1 (InD.mono I (by omega))) .nil (drs := []) (fun _ _ => DpAll.nil) rfl (by decide) rfl rfl ?_
  refine wa_cons rfl ?_
  refine we_bor 0 _ _ rfl (by first | exact Or.inl rfl | exact Or.inr (Or.inl rfl) | exact Or.inr (Or.inr rfl)) (by decide) (by decide) rfl ?_
  refine wa_cons rfl ?_
  refine we_int ?_
  refine wa_nil ?_
  refine ⟨(by first | trivial | exact fun p h => h), (by first | trivial | exact fun p h => h), ?_⟩
  refine ⟨0, p, cs, [.d (.int 5)], rfl, nb_of ⟨trivial, trivial⟩, rfl, ?_⟩
  refine ⟨p, cs, 5, rfl, hc, by omega, by omega, fun cs' k hc' k0 k1 => ⟨cs', _, rfl, ?_⟩⟩
  refine ⟨(by first | trivial | exact fun p h => h), _, (.int _ _), ?_⟩
  refine wa_cons rfl ?_
  refine we_lst ?_
  refine wa_nil ?_
  refine ⟨nb_of trivial, Nat.le_of_ble_eq_true rfl, ?_⟩
  refine wa_nil ?_
  refine ⟨(by first | trivial | exact fun p h => h), (by first | trivial | exact fun p h => h), ?_⟩
  refine ⟨_, _, rfl, fun q hq => ?_⟩
  refine ws_cons ?_
  refine w1_forR1 (g := fun _ => gName 4) (passes_of rfl) rfl (pg_name nd rfl (by first | exact Or.inl rfl | exact Or.inr rfl)) (tg_name 4) rfl (M _ (by decide)) rfl (fun _ => rfl) ?_
  refine wa_cons rfl ?_
  refine we_var 1 _ rfl (by first | exact Or.inl rfl | exact Or.inr (Or.inl rfl) | exact Or.inr (Or.inr rfl)) (by decide) (by decide) rfl ?_
  refine wa_nil ?_
  refine ⟨(by first | trivial | exact fun p h => h), ?_⟩
  refine ⟨m, rfl, by omega, fun i ρ => ∃ cs ts s4 s5, ρ = [.own p cs, .dat (.int m), .dat (.int (1 + k)), .own q (tiesD ts), s4, s5] ∧ Cup cs ∧ IsW m ts ∧ ∀ t ∈ ts, t.1 < (i : Int), ⟨cs', [], _, _, rfl, hc', ⟨fun t ht => by simp at ht, .nil⟩, fun t ht => by simp at ht⟩, fun i ρ hi ⟨cs, ts, s4, s5, e, hc, hw, hl⟩ => ?_, fun ρ ⟨cs, ts, s4, s5, e, hc, hw, hl⟩ => ?_⟩
  · subst e
    refine ⟨_, rfl, ?_⟩
    refine ws_cons ?_
    refine w1_forR2 (g := fun _ => gName 5) (passes_of rfl) rfl (pg_name nd rfl (by first | exact Or.inl rfl | exact Or.inr rfl)) (tg_name 5) rfl (M _ (by decide)) rfl rfl (fun _ => rfl) ?_
    refine wa_cons rfl ?_
    refine we_op2 op_addA o2_add ?_
    refine we_var 4 _ rfl (by first | exact Or.inl rfl | exact Or.inr (Or.inl rfl) | exact Or.inr (Or.inr rfl)) (by decide) (by decide) rfl ?_
    refine we_int ?_
    refine ⟨(by first | trivial | exact fun p h => h), _, (.int _ _), ?_⟩
    refine wa_cons rfl ?_
    refine we_var 1 _ rfl (by first | exact Or.inl rfl | exact Or.inr (Or.inl rfl) | exact Or.inr (Or.inr rfl)) (by decide) (by decide) rfl ?_
    refine wa_nil ?_
    refine ⟨(by first | trivial | exact fun p h => h), (by first | trivial | exact fun p h => h), ?_⟩
    refine ⟨i + 1, m, rfl, by omega, by omega, fun j ρ => ∃ cs ts s5, ρ = [.own p cs, .dat (.int m), .dat (.int (1 + k)), .own q (tiesD ts), .dat (.int i), s5] ∧ Cup cs ∧ IsW m ts ∧ ∀ t ∈ ts, t.1 < (i : Int) ∨ (t.1 = i ∧ t.2 < i + 1 + (j : Int)), ⟨cs, ts, _, rfl, hc, hw, fun t ht => .inl (hl t ht)⟩, fun j ρ hj ⟨cs, ts, s5, e, hc, hw, hl⟩ => ?_, fun ρ ⟨cs, ts, s5, e, hc, hw, hl⟩ => ?_⟩
    · subst e
      refine ⟨_, rfl, ?_⟩
      refine ws_cons ?_
      refine w1_if ?_
      refine wt_cmp op_lt o2_C (nomark _) ?_
      refine we_callC (Df.cal D1 (InD.mono I (by omega))) .nil (drs := []) (fun _ _ => DpAll.nil) rfl (by decide) rfl rfl ?_
      refine wa_cons rfl ?_
      refine we_bor 0 _ _ rfl (by first | exact Or.inl rfl | exact Or.inr (Or.inl rfl) | exact Or.inr (Or.inr rfl)) (by decide) (by decide) rfl ?_
      refine wa_cons rfl ?_
      refine we_int ?_
      refine wa_nil ?_
      refine ⟨(by first | trivial | exact fun p h => h), (by first | trivial | exact fun p h => h), ?_⟩
      refine ⟨0, p, cs, [.d (.int 6)], rfl, nb_of ⟨trivial, trivial⟩, rfl, ?_⟩
      refine ⟨p, cs, 6, rfl, hc, by omega, by omega, fun cs' k2 hc' k20 k21 => ⟨cs', _, rfl, ?_⟩⟩
      refine we_var 2 _ rfl (by first | exact Or.inl rfl | exact Or.inr (Or.inl rfl) | exact Or.inr (Or.inr rfl)) (by decide) (by decide) rfl ?_
      refine ⟨(by first | trivial | exact fun p h => h), _, (by constructor), ?_⟩
      refine ⟨fun hb => ?_, fun hb => ?_⟩
      · refine ws_cons ?_
        refine w1_append 3 (hap := rfl) rfl (by first | exact Or.inl rfl | exact Or.inr (Or.inl rfl) | exact Or.inr (Or.inr rfl)) (by decide) (by decide) rfl rfl rfl rfl rfl _ _ rfl ?_
        refine wa_cons rfl ?_
        refine we_tup (by decide) ?_
        refine wa_cons rfl ?_
        refine we_var 4 _ rfl (by first | exact Or.inl rfl | exact Or.inr (Or.inl rfl) | exact Or.inr (Or.inr rfl)) (by decide) (by decide) rfl ?_
        refine wa_cons rfl ?_
        refine we_var 5 _ rfl (by first | exact Or.inl rfl | exact Or.inr (Or.inl rfl) | exact Or.inr (Or.inr rfl)) (by decide) (by decide) rfl ?_
        refine wa_nil ?_
        refine ⟨(by first | trivial | exact fun p h => h), (by first | trivial | exact fun p h => h), ?_⟩
        refine ⟨nb_of ⟨trivial, trivial, trivial⟩, Nat.le_of_ble_eq_true rfl, ?_⟩
        refine wa_nil ?_
        refine ⟨(by first | trivial | exact fun p h => h), ?_⟩
        have hn := hw.len hm1
        refine ⟨_, _, rfl, trivial, rfl, by unfold tiesD; rw [List.length_map]; omega, ?_⟩
        refine ws_nil ?_
        refine ws_nil ?_
        refine ⟨cs', ts ++ [((i : Int), (i : Int) + 1 + (j : Int))], _, by rw [← tiesD_snoc]; rfl, hc', hw.snoc ⟨by omega, by omega, hj⟩ (fun s hs => hl s hs), fun t ht => ?_⟩
        rcases List.mem_append.mp ht with ht | ht
        · rcases hl t ht with h1 | ⟨h1, h2⟩
          · exact .inl h1
          · exact .inr ⟨h1, by omega⟩
        · rw [List.mem_singleton.mp ht]
          exact .inr ⟨rfl, by show (i : Int) + 1 + (j : Int) < (i : Int) + 1 + ((j + 1 : Nat) : Int); omega⟩
      · refine ws_nil ?_
        refine ws_nil ?_
        refine ⟨cs', ts, _, rfl, hc', hw, fun t ht => ?_⟩
        rcases hl t ht with h1 | ⟨h1, h2⟩
        · exact .inl h1
        · exact .inr ⟨h1, by omega⟩
    · subst e
      refine ws_nil ?_
      refine ⟨cs, ts, _, _, rfl, hc, hw, fun t ht => ?_⟩
      have := hl t ht
      omega
  · subst e
    refine ws_cons ?_
    refine w1_ret ?_
    refine we_tup (by decide) ?_
    refine wa_cons rfl ?_
    refine we_var 1 _ rfl (by first | exact Or.inl rfl | exact Or.inr (Or.inl rfl) | exact Or.inr (Or.inr rfl)) (by decide) (by decide) rfl ?_
    refine wa_cons rfl ?_
    refine we_callTy call_tuple_of oN_tup rfl (M _ (by decide)) rfl (by decide) (by decide) rfl rfl ?_
    refine wa_cons rfl ?_
    refine we_bor 3 _ _ rfl (by first | exact Or.inl rfl | exact Or.inr (Or.inl rfl) | exact Or.inr (Or.inr rfl)) (by decide) (by decide) rfl ?_
    refine wa_nil ?_
    refine ⟨(by first | trivial | exact fun p h => h), ?_⟩
    refine ⟨_, .lst _, ?_⟩
    refine wa_nil ?_
    refine ⟨(by first | trivial | exact fun p h => h), (by first | trivial | exact fun p h => h), ?_⟩
    refine ⟨nb_of ⟨trivial, trivial, trivial⟩, Nat.le_of_ble_eq_true rfl, ?_⟩
    refine ⟨_, .own (.any .nil), ?_⟩
    exact hR _ _ hc hw
end
end K

set_option maxHeartbeats 4000000
namespace K
open PySem PySem.Spec PyProof.Rows L2 Bs
abbrev s_law_written : Stmt := top 18
/-! texts as lists of signs -/
def S (xs : List Nat) : Str := ⟨xs.toArray⟩
theorem S_app (xs ys : List Nat) : S xs ++ S ys = S (xs ++ ys) := by
  show (⟨xs.toArray ++ ys.toArray⟩ : Str) = ⟨(xs ++ ys).toArray⟩
  rw [List.append_toArray]
theorem S_len (xs : List Nat) : (S xs).length = xs.length := by
  show xs.toArray.size = _
  rw [List.size_toArray]
theorem S_one (c : Nat) : (⟨#[c]⟩ : Str) = S [c] := rfl
theorem S_col : (":" : Str) = S [58] := by decide +kernel
theorem S_com : ("," : Str) = S [44] := by decide +kernel
theorem S_emp : (Str.empty : Str) = S [] := by decide +kernel
theorem let_list : ("abcdefghijkl" : Str).cps.toList = [97, 98, 99, 100, 101, 102, 103, 104, 105, 106, 107, 108] := by decide +kernel
theorem let_at {i : Int} (h0 : 0 ≤ i) (h1 : i < 12) : atI ("abcdefghijkl" : Str).cps.toList i = some (97 + i.toNat) := by
  rw [let_list]
  have : i = 0 ∨ i = 1 ∨ i = 2 ∨ i = 3 ∨ i = 4 ∨ i = 5 ∨ i = 6 ∨ i = 7 ∨ i = 8 ∨ i = 9 ∨ i = 10 ∨ i = 11 := by omega
  rcases this with rfl | rfl | rfl | rfl | rfl | rfl | rfl | rfl | rfl | rfl | rfl | rfl <;> decide
theorem let_ix {i : Int} (h0 : 0 ≤ i) (h1 : i < 12) : SIx (.str "abcdefghijkl") (.int i) (.d (.str (S [97 + i.toNat]))) := .str _ _ _ (by decide +kernel) (let_at h0 h1)
def tc (t : Tie) : List Nat := [97 + t.1.toNat, 97 + t.2.toNat]
def body : List Tie → List Nat
  | [] => []
  | t :: ts => ts.foldl (fun acc t => acc ++ 44 :: tc t) (tc t)
theorem body_snoc (ts : List Tie) (t : Tie) : body (ts ++ [t]) = if ts = [] then tc t else body ts ++ 44 :: tc t := by
  cases ts with
  | nil => rfl
  | cons s ts =>
    rw [if_neg (by simp)]
    show List.foldl _ (tc s) (ts ++ [t]) = _
    rw [List.foldl_append]
    rfl
theorem fold_len : ∀ (ts : List Tie) (acc : List Nat), (ts.foldl (fun acc t => acc ++ 44 :: tc t) acc).length = acc.length + 3 * ts.length
  | [], _ => rfl
  | t :: ts, acc => by
    rw [List.foldl_cons, fold_len ts, List.length_append, List.length_cons]
    show acc.length + (2 + 1) + _ = _
    rw [List.length_cons]
    omega
theorem body_len (ts : List Tie) : (body ts).length ≤ 3 * ts.length := by
  cases ts with
  | nil => exact Nat.le_refl _
  | cons t ts =>
    show (ts.foldl _ (tc t)).length ≤ _
    rw [fold_len]
    show 2 + _ ≤ _
    rw [List.length_cons]
    omega
def webL (m : Int) (ts : List Tie) : List Nat := [96 + m.toNat, 58] ++ body ts
theorem webL_len (m : Int) (ts : List Tie) : (webL m ts).length ≤ 2 + 3 * ts.length := by
  unfold webL
  rw [List.length_append]
  have := body_len ts
  show 2 + _ ≤ _
  omega
theorem small {n : Nat} (h : n ≤ 100000) : n ≤ sizeLine := Nat.le_trans h (by decide)
theorem ix_nat {n j : Nat} (h : j < n) : ixN n (j : Int) = some j := by
  unfold ixN
  rw [if_pos (by omega), if_pos (by omega), Int.toNat_natCast]
theorem mul_ok : ∀ b : Bool, MulOk "," (if b = true then 1 else 0)
  | true => ⟨by decide, fun _ h => by simp at h, fun _ h => by simp at h⟩
  | false => ⟨by decide, fun h => absurd (by decide) h, fun h => absurd (by decide) h⟩
theorem mul_com : ∀ b : Bool, Txt.mul "," (if b = true then 1 else 0) = S (if b = true then [44] else [])
  | true => by decide +kernel
  | false => by decide +kernel
section
variable {P : Program} {w : World} {K : PySem.W.Frag} {mg : Str → Option Value} {base : Heap}
def spWritten : BSp := fun as R _ => ∃ m ts, as = [.dat (webD m ts)] ∧ 1 ≤ m ∧ m ≤ 12 ∧ IsW m ts ∧ R (.d (.str (S (webL m ts)))) [.any]
theorem tlt_trans {a b c : Tie} (h1 : TLt a b) (h2 : TLt b c) : TLt a c := by
  unfold TLt at *
  omega
theorem ltT_tie (s t : Tie) : ltT (tieD s) (tieD t) = true ↔ TLt s t := by
  show HT.lexLt [s.1, s.2] [t.1, t.2] = true ↔ _
  rw [HT.lexLt_cons, HT.lexLt_cons, HT.lexLt_nil_nil]
  unfold TLt
  by_cases h : s.1 = t.1
  · rw [if_pos h]
    by_cases h2 : s.2 = t.2
    · rw [if_pos h2]; simp; omega
    · rw [if_neg h2, decide_eq_true_eq]; omega
  · rw [if_neg h, decide_eq_true_eq]; omega
theorem asc_iff : ∀ ts : List Tie, asc (tiesD ts) = true ↔ ts.Pairwise TLt
  | [] => ⟨fun _ => .nil, fun _ => rfl⟩
  | [t] => ⟨fun _ => List.pairwise_singleton _ _, fun _ => rfl⟩
  | t :: u :: ts => by
    have ih := asc_iff (u :: ts)
    have e : asc (tiesD (t :: u :: ts)) = (ltT (tieD t) (tieD u) && asc (tiesD (u :: ts))) := rfl
    rw [e, Bool.and_eq_true, ih, ltT_tie, List.pairwise_cons (a := t)]
    constructor
    · rintro ⟨h1, h2⟩
      refine ⟨fun v hv => ?_, h2⟩
      rcases List.mem_cons.mp hv with rfl | hv
      · exact h1
      · exact tlt_trans h1 ((List.pairwise_cons.mp h2).1 v hv)
    · rintro ⟨h1, h2⟩
      exact ⟨h1 u List.mem_cons_self, h2⟩
theorem web_fits {m : Int} {ts : List Tie} (h0 : 1 ≤ m) (h1 : m ≤ 12) (hw : IsW m ts) : fitsWeb (webD m ts) = true := by
  show (decide (1 ≤ m) && (decide (m ≤ 12) && ((tiesD ts).all (fitsEnds m) && asc (tiesD ts)))) = true
  rw [decide_eq_true h0, decide_eq_true h1, (asc_iff ts).mpr hw.asc]
  have : (tiesD ts).all (fitsEnds m) = true := by
    rw [List.all_eq_true]
    intro d hd
    obtain ⟨t, ht, rfl⟩ := List.mem_map.mp (show d ∈ ts.map tieD from hd)
    have := hw.fit t ht
    show ((decide (0 ≤ t.1) && decide (t.1 < m)) && ((decide (0 ≤ t.2) && decide (t.2 < m)) && decide (t.1 < t.2))) = true
    simp only [Bool.and_eq_true, decide_eq_true_eq]
    omega
  rw [this]
  rfl
theorem ties_of {m : Int} : ∀ {ds : List PyData}, (∀ d ∈ ds, fitsEnds m d = true) → ∃ ts, ds = tiesD ts ∧ ∀ t ∈ ts, 0 ≤ t.1 ∧ t.1 < t.2 ∧ t.2 < m
  | [], _ => ⟨[], rfl, fun t ht => by simp at ht⟩
  | d :: ds, h => by
    obtain ⟨ts, rfl, hf⟩ := ties_of (ds := ds) fun e he => h e (List.mem_cons_of_mem _ he)
    obtain ⟨i, j, rfl, h1, h2, h3⟩ := fitsEnds_ints (h d List.mem_cons_self)
    refine ⟨(i, j) :: ts, rfl, fun t ht => ?_⟩
    rcases List.mem_cons.mp ht with rfl | ht
    · exact ⟨h1, h2, h3⟩
    · exact hf t ht
theorem fits_web {d : PyData} (h : fitsWeb d = true) : ∃ m ts, d = webD m ts ∧ 1 ≤ m ∧ m ≤ 12 ∧ IsW m ts := by
  match d, h with
  | .tuple [.int n, t], h =>
    have h : (decide (1 ≤ n) && (decide (n ≤ 12) && fitsAll n t)) = true := h
    rw [Bool.and_eq_true, Bool.and_eq_true, decide_eq_true_eq, decide_eq_true_eq] at h
    obtain ⟨h0, h1, h2⟩ := h
    match t, h2 with
    | .tuple ds, h2 =>
      have h2 : (ds.all (fitsEnds n) && asc ds) = true := h2
      rw [Bool.and_eq_true, List.all_eq_true] at h2
      obtain ⟨ts, rfl, hf⟩ := ties_of h2.1
      exact ⟨n, ts, rfl, h0, h1, hf, (asc_iff ts).mp h2.2⟩
theorem join_body (ts : List Tie) : Txt.join "," (ts.map fun t => S (tc t)) = S (body ts) := by
  cases ts with
  | nil => exact S_emp
  | cons t ts =>
    show (⟨(ts.map fun t => S (tc t)).foldl (fun acc p => acc ++ ("," : Str).cps ++ p.cps) (tc t).toArray⟩ : Str) = ⟨(body (t :: ts)).toArray⟩
    have : ∀ (us : List Tie) (acc : List Nat), (us.map fun t => S (tc t)).foldl (fun acc p => acc ++ ("," : Str).cps ++ p.cps) acc.toArray = (us.foldl (fun acc t => acc ++ 44 :: tc t) acc).toArray := by
      intro us
      induction us with
      | nil => intro acc; rfl
      | cons u us ih =>
        intro acc
        rw [List.map_cons, List.foldl_cons, List.foldl_cons, ← ih]
        congr 1
        have e : ("," : Str).cps = [44].toArray := by decide +kernel
        rw [e]
        show acc.toArray ++ [44].toArray ++ (tc u).toArray = _
        rw [List.append_toArray, List.append_toArray]
        simp
    rw [this]
    rfl
def itemsD : PyData → List PyData
  | .tuple ds => ds
  | .list ds => ds
  | _ => []
theorem words_sum : ∀ ts : List Tie, ((ts.map fun t => S (tc t)).map (·.length)).sum = 2 * ts.length
  | [] => rfl
  | t :: ts => by
    rw [List.map_cons, List.map_cons, List.sum_cons, words_sum ts, List.length_cons, S_len]
    show 2 + _ = _
    omega
def spWText (C : Addr) : BSp := fun as R Y => ∃ d, as = [.dat d] ∧ SmW d ∧ (∀ m ts, d = webD m ts → 1 ≤ m → m ≤ 12 → IsW m ts → R (.d (.str (S (webL m ts)))) [.any]) ∧ (fitsWeb d = false → Y (.ref C) [] [.any])
end
end K

set_option maxHeartbeats 4000000
namespace K
open PySem PySem.Spec PyProof.Rows L2 Bs
abbrev s_possible_ties : Stmt := top 8
theorem sc_possible_ties : FnScope ["n", "x", "y"] ["n"] (defScope s_possible_ties) := ⟨rfl, rfl, rfl, by decide +kernel, rfl, by decide +kernel, by decide +kernel⟩
section
variable {P : Program} {w : World} {K : PySem.W.Frag} {mg : Str → Option Value} {base : Heap}
def allT (n : Int) : List Tie := (List.range n.toNat).flatMap fun (x : Nat) => (List.range (n - ((x : Int) + 1)).toNat).map fun (y : Nat) => ((x : Int), (x : Int) + 1 + (y : Int))
theorem allT_mem {n : Int} {t : Tie} (h : t ∈ allT n) : 0 ≤ t.1 ∧ t.1 < t.2 ∧ t.2 < n := by
  unfold allT at h
  obtain ⟨x, hx, h⟩ := List.mem_flatMap.mp h
  obtain ⟨y, hy, rfl⟩ := List.mem_map.mp h
  rw [List.mem_range] at hx hy
  exact ⟨Int.natCast_nonneg x, by show (x : Int) < (x : Int) + 1 + (y : Int); omega, by show (x : Int) + 1 + (y : Int) < n; omega⟩
theorem mem_allT {n : Int} {t : Tie} (h0 : 0 ≤ t.1) (h1 : t.1 < t.2) (h2 : t.2 < n) : t ∈ allT n := by
  unfold allT
  refine List.mem_flatMap.mpr ⟨t.1.toNat, List.mem_range.mpr (by omega), List.mem_map.mpr ⟨(t.2 - t.1 - 1).toNat, List.mem_range.mpr (by omega), ?_⟩⟩
  refine Prod.ext ?_ ?_
  · show ((t.1.toNat : Nat) : Int) = t.1
    omega
  · show ((t.1.toNat : Nat) : Int) + 1 + (((t.2 - t.1 - 1).toNat : Nat) : Int) = t.2
    omega
def spPoss : BSp := fun as R _ => ∃ n, as = [.dat (.int n)] ∧ 0 ≤ n ∧ n ≤ 12 ∧ R (.n (tiesD (allT n))) [.any]
def inE (n : Int) (d : PyData) : List PyData := rngD (intOf d + 1) (n - (intOf d + 1)).toNat
theorem poss_eq (n : Int) : ((rngD 0 n.toNat).flatMap fun d => (inE n d).map fun e => PyData.tuple [d, e]) = tiesD (allT n) := by
  unfold rngD tiesD allT inE rngD
  rw [List.flatMap_map, List.map_flatMap]
  congr 1
  funext x
  rw [List.map_map, List.map_map]
  have e : intOf (PyData.int (0 + (x : Int))) = (x : Int) := by show (0 : Int) + x = x; omega
  rw [e]
  refine List.map_congr_left fun y _ => ?_
  show PyData.tuple [.int (0 + (x : Int)), .int ((x : Int) + 1 + (y : Int))] = _
  rw [Int.zero_add]
  rfl
theorem ok_possible_ties (M : NoSh mg) (h : Has K mg "_possible_ties" s_possible_ties ["n"]) : Df P w K mg base 1 "_possible_ties" ["n"] spPoss := by
  refine h.df (k := 0) sc_possible_ties (fun as R Y ⟨d, e, _⟩ => by rw [e]; rfl) fun f cdv A outer s H E I as R Y ⟨n, e, h0, h1, hR⟩ => ?_
  subst e
  have nd := sc_possible_ties.nd
  refine ws_cons ?_
  refine w1_ret ?_
  refine we_lc2 (own := [("x", 1), ("y", 2)]) (vs1 := [2]) (g := fun _ => gName 1) (g1 := fun _ => gName 2) (tgi_name 1) (by decide) (tgi_name 2) (by decide) (by decide) rfl nd (pi_range1 rfl (M _ (by decide)) pa_sA) (blk_cx (by decide +kernel)) (fun _ _ _ _ _ => pg_name nd rfl (by first | exact Or.inl rfl | exact Or.inr rfl) (by first | exact Or.inl rfl | exact Or.inr rfl)) (fun _ _ _ _ _ => pi_range2 rfl (M _ (by decide)) pab) (fun _ _ _ _ _ => pg_name nd rfl (by first | exact Or.inl rfl | exact Or.inr rfl) (by first | exact Or.inl rfl | exact Or.inr rfl)) (fun _ => rfl) (fun _ _ => rfl) ?_
  refine wi_rng1 ?_
  refine wa_cons rfl ?_
  refine we_var 0 _ rfl (by first | exact Or.inl rfl | exact Or.inr (Or.inl rfl) | exact Or.inr (Or.inr rfl)) (by decide) (by decide) rfl ?_
  refine wa_nil ?_
  refine ⟨(by first | trivial | exact fun p h => h), ?_⟩
  refine ⟨n, rfl, by omega, by rw [rngD_len]; omega, inE n, fun d e => .tuple [d, e], rfl, fun d hd => ?_, ?_⟩
  · obtain ⟨i, hi⟩ := List.mem_iff_getElem?.mp hd
    obtain ⟨hi0, rfl⟩ := rngD_get hi
    rw [Int.zero_add]
    refine ⟨by unfold inE; rw [rngD_len]; show (n - ((i : Int) + 1)).toNat < 1000; omega, _, rfl, rfl, wip_rng2 fun s0 H0 C cl fp => ?_, fun e he => ?_⟩
    · refine wa_cons rfl ?_
      refine we_op2 op_addA o2_add ?_
      refine we_var 1 _ rfl (by first | exact Or.inl rfl | exact Or.inr (Or.inl rfl) | exact Or.inr (Or.inr rfl)) (by decide) (by decide) rfl ?_
      refine we_int ?_
      refine ⟨(by first | trivial | exact fun p h => h), _, (.int _ _), ?_⟩
      refine wa_cons rfl ?_
      refine we_var 0 _ rfl (by first | exact Or.inl rfl | exact Or.inr (Or.inl rfl) | exact Or.inr (Or.inr rfl)) (by decide) (by decide) rfl ?_
      refine wa_nil ?_
      refine ⟨(by first | trivial | exact fun p h => h), (by first | trivial | exact fun p h => h), ?_⟩
      exact ⟨rfl, (i : Int) + 1, n, rfl, by omega, by omega, rfl⟩
    · refine ⟨_, rfl, rfl, fun s0 H0 C cl fp => ?_⟩
      refine we_tup (by decide) ?_
      refine wa_cons rfl ?_
      refine we_var 1 _ rfl (by first | exact Or.inl rfl | exact Or.inr (Or.inl rfl) | exact Or.inr (Or.inr rfl)) (by decide) (by decide) rfl ?_
      refine wa_cons rfl ?_
      refine we_var 2 _ rfl (by first | exact Or.inl rfl | exact Or.inr (Or.inl rfl) | exact Or.inr (Or.inr rfl)) (by decide) (by decide) rfl ?_
      refine wa_nil ?_
      refine ⟨(by first | trivial | exact fun p h => h), (by first | trivial | exact fun p h => h), ?_⟩
      refine ⟨nb_of ⟨trivial, trivial, trivial⟩, Nat.le_of_ble_eq_true rfl, ?_⟩
      exact ⟨rfl, rfl⟩
  · rw [poss_eq]
    refine ⟨_, Back.any (Back.nil), ?_⟩
    exact hR
theorem cutS_one {xs : List Nat} {i : Nat} {c : Nat} (h : xs[i]? = some c) : cutS (S xs) (some (i : Int)) (some ((i : Int) + 1)) = S [c] := by
  have hi : i < xs.length := (List.getElem?_eq_some_iff.mp h).1
  unfold cutS
  have e1 : HT.sIx (S xs).length 0 (some (i : Int)) = i := by rw [HT.sIx_nat, S_len]; omega
  have e2 : HT.sIx (S xs).length (S xs).length (some ((i : Int) + 1)) = i + 1 := by
    have := HT.sIx_nat (S xs).length (S xs).length (i + 1)
    rw [show ((i : Int) + 1) = ((i + 1 : Nat) : Int) by omega, this, S_len]
    omega
  rw [e1, e2]
  show (⟨(List.take (i + 1 - i) (List.drop i xs.toArray.toList)).toArray⟩ : Str) = ⟨[c].toArray⟩
  rw [show i + 1 - i = 1 by omega]
  have : List.take 1 (List.drop i xs.toArray.toList) = [c] := by
    rw [show xs.toArray.toList = xs from rfl, List.drop_eq_getElem_cons hi]
    rw [List.getElem?_eq_getElem hi] at h
    cases h
    rfl
  rw [this]
theorem S_inj {xs ys : List Nat} (h : S xs = S ys) : xs = ys := by
  have := congrArg (fun z : Str => z.cps.toList) h
  exact this
theorem let_dec {a b : Int} (ha : 0 ≤ a) (hb : 0 ≤ b) : decide (S [97 + a.toNat] = S [97 + b.toNat]) = decide (a = b) := by
  rw [decide_eq_decide]
  constructor
  · intro h
    have := S_inj h
    have : 97 + a.toNat = 97 + b.toNat := by simpa using this
    omega
  · intro h
    rw [h]
theorem at0 (d : PyData) (ds : List PyData) : atI (d :: ds) 0 = some d := by
  unfold atI
  rw [show (0 : Int) = ((0 : Nat) : Int) from rfl, ix_nat (by simp)]
  rfl
theorem occ_let {j : Nat} (h : j < 12) : Builtin.Str.occurrences "abcdefghijkl" (S [97 + j]) 0 ("abcdefghijkl" : Str).length 1 = [j] := by
  have : j = 0 ∨ j = 1 ∨ j = 2 ∨ j = 3 ∨ j = 4 ∨ j = 5 ∨ j = 6 ∨ j = 7 ∨ j = 8 ∨ j = 9 ∨ j = 10 ∨ j = 11 := by omega
  rcases this with rfl | rfl | rfl | rfl | rfl | rfl | rfl | rfl | rfl | rfl | rfl | rfl <;> decide +kernel
theorem atn0 (c : Nat) (cs : List Nat) : atI (c :: cs) 0 = some c := by
  unfold atI
  rw [show (0 : Int) = ((0 : Nat) : Int) from rfl, ix_nat (by simp)]
  rfl
theorem allT_len {n : Int} (h0 : 0 ≤ n) (h1 : n ≤ 12) : (allT n).length ≤ 1000 := by
  have : n = 0 ∨ n = 1 ∨ n = 2 ∨ n = 3 ∨ n = 4 ∨ n = 5 ∨ n = 6 ∨ n = 7 ∨ n = 8 ∨ n = 9 ∨ n = 10 ∨ n = 11 ∨ n = 12 := by omega
  rcases this with rfl | rfl | rfl | rfl | rfl | rfl | rfl | rfl | rfl | rfl | rfl | rfl | rfl <;> decide +kernel
theorem shp_ties (ts : List Tie) : Shp (.list (tiesD ts)) := by
  have h1 : ∀ ts : List Tie, PyData.canLayAll0 (tiesD ts) = true := fun ts => by
    induction ts with
    | nil => simp [tiesD, PyData.canLayAll0]
    | cons t ts ih =>
      show (PyData.canLayAll0 (tieD t :: tiesD ts)) = true
      rw [PyData.canLayAll0, ih]
      simp [tieD, PyData.canLay0, PyData.canLayAll0]
  have h2 : ∀ ts : List Tie, PyData.depthAll (tiesD ts) ≤ 1 := fun ts => by
    induction ts with
    | nil => simp [tiesD, PyData.depthAll]
    | cons t ts ih =>
      show PyData.depthAll (tieD t :: tiesD ts) ≤ 1
      rw [PyData.depthAll]
      have : PyData.depth (tieD t) = 1 := by simp [tieD, PyData.depth, PyData.depthAll]
      omega
  refine shp_of ?_ ?_
  · rw [PyData.canLay0]; exact h1 ts
  · rw [PyData.depth]
    have := h2 ts
    omega
theorem eqv_nil (ts : List Tie) : PyData.eqv (.list (tiesD ts)) (.list []) = decide (ts = []) := by
  cases ts with
  | nil => simp [tiesD, PyData.eqv, PyData.eqvAll]
  | cons t ts => simp [tiesD, PyData.eqv, PyData.eqvAll]
theorem tieD_inj {s t : Tie} (h : tieD s = tieD t) : s = t := by
  obtain ⟨a, b⟩ := s
  obtain ⟨c, d⟩ := t
  cases h
  rfl
theorem tiesD_inj : ∀ {a b : List Tie}, tiesD a = tiesD b → a = b
  | [], [], _ => rfl
  | [], _ :: _, h => by cases h
  | _ :: _, [], h => by cases h
  | s :: a, t :: b, h => by
    have h : tieD s :: tiesD a = tieD t :: tiesD b := h
    obtain ⟨h1, h2⟩ := List.cons.inj h
    rw [tieD_inj h1, tiesD_inj h2]
theorem w_int {i : Int} (h0 : 0 ≤ i) (h1 : i ≤ 12) : PyData.weight (.int i) ≤ 13 := by
  rw [PyData.weight]
  split
  · exact Nat.zero_le _
  · have := Nat.log2_le_self i.natAbs
    omega
theorem ls_int {i : Int} (h0 : 0 ≤ i) (h1 : i ≤ 12) : PyData.leavesShort 13 (.int i) = true := by
  rw [PyData.leavesShort]
  exact decide_eq_true (PyData.shown_int_le (by omega))
theorem sh_int {i : Int} (h0 : 0 ≤ i) (h1 : i ≤ 12) : PyData.showable (.int i) = true := by
  rw [PyData.showable]
  have := Nat.log2_le_self i.natAbs
  exact decide_eq_true (by omega)
theorem ties_small : ∀ {ts : List Tie}, (∀ t ∈ ts, 0 ≤ t.1 ∧ t.1 < t.2 ∧ t.2 < 12) → PyData.weightAll (tiesD ts) ≤ 40 * ts.length ∧ PyData.leavesShortAll 13 (tiesD ts) = true ∧ PyData.showableAll (tiesD ts) = true ∧ PyData.depthAll (tiesD ts) ≤ 1 ∧ PyData.canLayAll0 (tiesD ts) = true
  | [], _ => ⟨by simp [tiesD, PyData.weightAll], by simp [tiesD, PyData.leavesShortAll], by simp [tiesD, PyData.showableAll], by simp [tiesD, PyData.depthAll], by simp [tiesD, PyData.canLayAll0]⟩
  | t :: ts, h => by
    obtain ⟨h1, h2, h3, h4, h5⟩ := ties_small (ts := ts) fun u hu => h u (List.mem_cons_of_mem _ hu)
    have ht := h t List.mem_cons_self
    have a1 := w_int (i := t.1) (by omega) (by omega)
    have a2 := w_int (i := t.2) (by omega) (by omega)
    have b1 := ls_int (i := t.1) (by omega) (by omega)
    have b2 := ls_int (i := t.2) (by omega) (by omega)
    have c1 := sh_int (i := t.1) (by omega) (by omega)
    have c2 := sh_int (i := t.2) (by omega) (by omega)
    have e : tiesD (t :: ts) = .tuple [.int t.1, .int t.2] :: tiesD ts := rfl
    rw [e, PyData.weightAll, PyData.leavesShortAll, PyData.showableAll, PyData.depthAll, PyData.canLayAll0, h2, h3, h5]
    refine ⟨?_, ?_, ?_, ?_, ?_⟩
    · rw [PyData.weight, PyData.weightAll, PyData.weightAll, PyData.weightAll, List.length_cons]
      omega
    · rw [PyData.leavesShort, PyData.leavesShortAll, PyData.leavesShortAll, PyData.leavesShortAll, b1, b2]
      rfl
    · rw [PyData.showable, PyData.showableAll, PyData.showableAll, PyData.showableAll, c1, c2]
      rfl
    · have : PyData.depth (.tuple [.int t.1, .int t.2]) = 1 := by simp [PyData.depth, PyData.depthAll]
      omega
    · simp [PyData.canLay0, PyData.canLayAll0]
theorem rep_web {m : Int} {ts : List Tie} (h0 : 1 ≤ m) (h1 : m ≤ 12) (hw : IsW m ts) : SRep [webD m ts] (.d (.str (webD m ts).shown)) := by
  have hn := hw.len h1
  obtain ⟨a1, a2, a3, a4, a5⟩ := ties_small (ts := ts) fun t ht => by have := hw.fit t ht; omega
  have w1 := w_int (i := m) (by omega) h1
  have l1 := ls_int (i := m) (by omega) h1
  have s1 := sh_int (i := m) (by omega) h1
  refine .mk _ ?_ ?_ ?_
  · show PyData.showable (.tuple [.int m, .tuple (tiesD ts)]) = true
    simp only [PyData.showable, PyData.showableAll] at s1 ⊢
    rw [s1, a3]
    rfl
  · refine PyData.shown_fits (B := 13) (by decide) (by decide) ?_ ?_
    · show PyData.leavesShort 13 (.tuple [.int m, .tuple (tiesD ts)]) = true
      simp only [PyData.leavesShort, PyData.leavesShortAll] at l1 ⊢
      rw [l1, a2]
      rfl
    · show PyData.weight (.tuple [.int m, .tuple (tiesD ts)]) ≤ _
      rw [PyData.weight, PyData.weightAll, PyData.weightAll, PyData.weightAll, PyData.weight]
      exact Nat.le_trans (show _ ≤ 10000 by omega) (by decide)
  · show PyData.depth (.tuple [.int m, .tuple (tiesD ts)]) ≤ 60
    rw [PyData.depth, PyData.depthAll, PyData.depthAll, PyData.depthAll, PyData.depth]
    have : PyData.depth (.int m) = 0 := by simp [PyData.depth]
    omega
theorem webD_inj {m m' : Int} {ts ts' : List Tie} (h : webD m ts = webD m' ts') : m = m' ∧ ts = ts' := by
  have h : PyData.tuple [.int m, .tuple (tiesD ts)] = .tuple [.int m', .tuple (tiesD ts')] := h
  have h1 := List.cons.inj (PyData.tuple.inj h)
  have h2 := List.cons.inj h1.2
  exact ⟨PyData.int.inj h1.1, tiesD_inj (PyData.tuple.inj h2.1)⟩
def rowT (m : Int) (x : Nat) : List Tie := (List.range (m - ((x : Int) + 1)).toNat).map fun (y : Nat) => ((x : Int), (x : Int) + 1 + (y : Int))
def allP (m : Int) (i : Nat) : List Tie := (List.range i).flatMap (rowT m)
theorem allP_all (m : Int) : allP m m.toNat = allT m := rfl
theorem allP_succ (m : Int) (i : Nat) : allP m (i + 1) = allP m i ++ rowT m i := by
  unfold allP
  rw [List.range_succ, List.flatMap_append]
  simp
theorem row_eq (m : Int) (i : Nat) : ((rngD ((i : Int) + 1) (m - ((i : Int) + 1)).toNat).map fun e => PyData.tuple [.int (i : Int), e]) = tiesD (rowT m i) := by
  unfold rngD tiesD rowT
  rw [List.map_map, List.map_map]
  rfl
theorem allT_isW (m : Int) : IsW m (allT m) := by
  refine ⟨fun t ht => allT_mem ht, ?_⟩
  show ((List.range m.toNat).flatMap (rowT m)).Pairwise TLt
  rw [List.pairwise_flatMap]
  refine ⟨fun x hx => ?_, ?_⟩
  · unfold rowT
    rw [List.pairwise_map]
    refine List.Pairwise.imp ?_ List.pairwise_lt_range
    intro a b hab
    exact .inr ⟨rfl, by show (x : Int) + 1 + (a : Int) < (x : Int) + 1 + (b : Int); omega⟩
  · refine List.Pairwise.imp ?_ List.pairwise_lt_range
    intro a b hab s hs t ht
    obtain ⟨y, _, rfl⟩ := List.mem_map.mp hs
    obtain ⟨z, _, rfl⟩ := List.mem_map.mp ht
    exact .inl (by show (a : Int) < (b : Int); omega)
theorem allP_len (m : Int) : ∀ i : Nat, m ≤ 12 → (allP m i).length ≤ 12 * i
  | 0, _ => Nat.le_refl _
  | i + 1, h => by
    have := allP_len m i h
    rw [allP_succ, List.length_append]
    unfold rowT
    rw [List.length_map, List.length_range]
    omega
end
end K

set_option maxHeartbeats 4000000
namespace K
open PySem PySem.Spec PyProof.Rows L2 Bs
abbrev s_law_ahead : Stmt := top 16
theorem sc_law_ahead : FnScope ["_law_many", "_law_ties", "_law_first", "_law_found", "_law_x", "_law_y"] ["_law_many", "_law_ties", "_law_first"] (defScope s_law_ahead) := ⟨rfl, rfl, rfl, by decide +kernel, rfl, by decide +kernel, by decide +kernel⟩
/-! what may follow: the ties behind the last one, with a first end or any -/
def tlt (s t : Tie) : Bool := decide (s.1 < t.1) || (decide (s.1 = t.1) && decide (s.2 < t.2))
theorem tlt_iff (s t : Tie) : tlt s t = true ↔ TLt s t := by
  unfold tlt TLt
  simp only [Bool.or_eq_true, Bool.and_eq_true, decide_eq_true_eq]
def afterL (ties : List Tie) (t : Tie) : Bool := match ties.getLast? with
  | none => true
  | some l => tlt l t
def okF : Option Int → Tie → Bool
  | none, _ => true
  | some p, t => decide (p = t.1)
def ahead (m : Int) (ties : List Tie) (f : Option Int) : List Tie := (allT m).filter fun t => afterL ties t && okF f t
def firD : Option Int → PyData
  | none => .none
  | some p => .int p
theorem gtT_tie (s t : Tie) : ltT (tieD s) (tieD t) = tlt s t := by
  rw [Bool.eq_iff_iff, ltT_tie, tlt_iff]
theorem eqv_in {a b : Int} : PyData.eqv (.int a) (.int b) = decide (a = b) := eqv_ii a b
theorem first_in (f : Option Int) (x : Int) : ([PyData.int x, .none].any fun z => PyData.eqv z (firD f)) = (match f with | none => true | some p => decide (p = x)) := by
  cases f with
  | none => simp [firD, PyData.eqv]
  | some p =>
    show (PyData.eqv (.int x) (.int p) || (PyData.eqv .none (.int p) || false)) = decide (p = x)
    rw [eqv_ii]
    have : PyData.eqv .none (.int p) = false := by simp [PyData.eqv]
    rw [this, Bool.or_false, Bool.or_false, decide_eq_decide]
    exact eq_comm
theorem filter_one (p : Tie → Bool) (t : Tie) : [t].filter p = if p t = true then [t] else [] := by
  cases h : p t <;> simp [h]
theorem shp_pn (x : Int) : Shp (.tuple [.int x, .none]) := shp_of (by simp [PyData.canLay0, PyData.canLayAll0]) (by simp [PyData.depth, PyData.depthAll])
theorem at_last {ts : List Tie} {l : Tie} (h : ts.getLast? = some l) : atI (tiesD ts) (-1) = some (tieD l) := by
  have hne : ts ≠ [] := fun z => by rw [z] at h; cases h
  have hl : 0 < ts.length := List.length_pos_iff.mpr hne
  have el : (tiesD ts).length = ts.length := by unfold tiesD; rw [List.length_map]
  unfold atI ixN
  rw [el, if_neg (by omega), if_pos (by omega)]
  show (tiesD ts)[(-1 + (ts.length : Int)).toNat]? = _
  have e : (-1 + (ts.length : Int)).toNat = ts.length - 1 := by omega
  rw [e]
  unfold tiesD
  rw [List.getElem?_map, ← List.getLast?_eq_getElem?, h]
  rfl
section
variable {P : Program} {w : World} {K : PySem.W.Frag} {mg : Str → Option Value} {base : Heap}
def spAhead : BSp := fun as R _ => ∃ m p ts f, as = [.dat (.int m), .own p (tiesD ts), .dat (firD f)] ∧ 1 ≤ m ∧ m ≤ 12 ∧ ts.length ≤ 100000 ∧ R (.n (tiesD (ahead m ts f))) [.any, .own p (tiesD ts), .any]
theorem ok_law_ahead (M : NoSh mg) (h : Has K mg "_law_ahead" s_law_ahead ["_law_many", "_law_ties", "_law_first"]) : Df P w K mg base 1 "_law_ahead" ["_law_many", "_law_ties", "_law_first"] spAhead := by
  refine h.df (k := 0) sc_law_ahead (fun as R Y ⟨_, _, _, _, e, _⟩ => by rw [e]; rfl) fun f cdv A outer s H E I as R Y ⟨m, p, ts, fi, e, h0, h1, hts, hR⟩ => ?_
  subst e
  have nd := sc_law_ahead.nd
  refine ws_cons ?_
  refine w1_set 3 nd rfl (by first | exact Or.inl rfl | exact Or.inr rfl) rfl (by first | exact Or.inl rfl | exact Or.inr rfl) ?_
  refine we_lst ?_
  refine wa_nil ?_
  refine ⟨nb_of trivial, Nat.le_of_ble_eq_true rfl, ?_⟩
  intro q hq
  refine ws_cons ?_
  refine w1_forR1 (g := fun _ => gName 4) (passes_of rfl) rfl (pg_name nd rfl (by first | exact Or.inl rfl | exact Or.inr rfl)) (tg_name 4) rfl (M _ (by decide)) rfl (fun _ => rfl) ?_
  refine wa_cons rfl ?_
  refine we_var 0 _ rfl (by first | exact Or.inl rfl | exact Or.inr (Or.inl rfl) | exact Or.inr (Or.inr rfl)) (by decide) (by decide) rfl ?_
  refine wa_nil ?_
  refine ⟨(by first | trivial | exact fun p h => h), ?_⟩
  refine ⟨m, rfl, by omega, fun i ρ => ∃ s4 s5, ρ = [.dat (.int m), .own p (tiesD ts), .dat (firD fi), .own q (tiesD ((allP m i).filter fun t => afterL ts t && okF fi t)), s4, s5], ⟨_, _, rfl⟩, fun i ρ hi ⟨s4, s5, e⟩ => ?_, fun ρ ⟨s4, s5, e⟩ => ?_⟩
  · subst e
    refine ⟨_, rfl, ?_⟩
    refine ws_cons ?_
    refine w1_forR2 (g := fun _ => gName 5) (passes_of rfl) rfl (pg_name nd rfl (by first | exact Or.inl rfl | exact Or.inr rfl)) (tg_name 5) rfl (M _ (by decide)) rfl rfl (fun _ => rfl) ?_
    refine wa_cons rfl ?_
    refine we_op2 op_addA o2_add ?_
    refine we_var 4 _ rfl (by first | exact Or.inl rfl | exact Or.inr (Or.inl rfl) | exact Or.inr (Or.inr rfl)) (by decide) (by decide) rfl ?_
    refine we_int ?_
    refine ⟨(by first | trivial | exact fun p h => h), _, (.int _ _), ?_⟩
    refine wa_cons rfl ?_
    refine we_var 0 _ rfl (by first | exact Or.inl rfl | exact Or.inr (Or.inl rfl) | exact Or.inr (Or.inr rfl)) (by decide) (by decide) rfl ?_
    refine wa_nil ?_
    refine ⟨(by first | trivial | exact fun p h => h), (by first | trivial | exact fun p h => h), ?_⟩
    refine ⟨i + 1, m, rfl, by omega, by omega, fun j ρ => ∃ s5, ρ = [.dat (.int m), .own p (tiesD ts), .dat (firD fi), .own q (tiesD ((allP m i ++ (rowT m i).take j).filter fun t => afterL ts t && okF fi t)), .dat (.int i), s5], ⟨s5, by rw [List.take_zero, List.append_nil]; rfl⟩, fun j ρ hj ⟨s5, e⟩ => ?_, fun ρ ⟨s5, e⟩ => ?_⟩
    · subst e
      refine ⟨_, rfl, ?_⟩
      have hro : (rowT m i).take (j + 1) = (rowT m i).take j ++ [((i : Int), (i : Int) + 1 + (j : Int))] := by
        rw [List.take_add_one]
        unfold rowT
        rw [List.getElem?_map, List.getElem?_range (by omega)]
        rfl
      have hlen := allP_len m i h1
      have hlen2 : ((rowT m i).take j).length ≤ 12 := by
        rw [List.length_take]
        omega
      have hfl : (tiesD ((allP m i ++ (rowT m i).take j).filter fun t => afterL ts t && okF fi t)).length < 100000 := by
        unfold tiesD
        rw [List.length_map]
        have := List.length_filter_le (fun t => afterL ts t && okF fi t) (allP m i ++ (rowT m i).take j)
        rw [List.length_append] at this
        omega
      obtain ⟨t, ht⟩ : ∃ t : Tie, t = ((i : Int), (i : Int) + 1 + (j : Int)) := ⟨_, rfl⟩
      refine ws_cons ?_
      refine w1_if ?_
      refine WT.imp (R' := fun k ρ' => k = (afterL ts t && okF fi t) ∧ ρ' = [.dat (.int m), .own p (tiesD ts), .dat (firD fi), .own q (tiesD ((allP m i ++ (rowT m i).take j).filter fun t => afterL ts t && okF fi t)), .dat (.int i), .dat (.int ((i : Int) + 1 + (j : Int)))]) ?_ ?_
      · refine wt_ww ?_
        refine ww_and ?_
        refine WT.imp (R' := fun k ρ' => k = afterL ts t ∧ ρ' = [.dat (.int m), .own p (tiesD ts), .dat (firD fi), .own q (tiesD ((allP m i ++ (rowT m i).take j).filter fun t => afterL ts t && okF fi t)), .dat (.int i), .dat (.int ((i : Int) + 1 + (j : Int)))]) ?_ ?_
        · refine wt_ww ?_
          refine ww_or ?_
          refine wt_cmp (op_eqD (by exact room_u64 I.r)) o2_eq (nomark _) ?_
          refine we_bor 1 _ _ rfl (by first | exact Or.inl rfl | exact Or.inr (Or.inl rfl) | exact Or.inr (Or.inr rfl)) (by decide) (by decide) rfl ?_
          refine we_lst ?_
          refine wa_nil ?_
          refine ⟨nb_of trivial, Nat.le_of_ble_eq_true rfl, ?_⟩
          refine ⟨(by first | trivial | exact fun p h => h), _, (SEq.of (shp_ties ts) (by decide +kernel) (eqv_nil ts)), ?_⟩
          refine ⟨fun hb => ?_, fun hb => ?_⟩
          · have hb : ts ≠ [] := of_decide_eq_false hb
            obtain ⟨l, hl⟩ : ∃ l, ts.getLast? = some l := ⟨ts.getLast hb, List.getLast?_eq_some_getLast hb⟩
            refine ww_or1 ?_
            refine wt_cmp (op_gtT (by exact room_u0 I.r)) o2_gtT (nomark _) ?_
            refine we_tup (by decide) ?_
            refine wa_cons rfl ?_
            refine we_var 4 _ rfl (by first | exact Or.inl rfl | exact Or.inr (Or.inl rfl) | exact Or.inr (Or.inr rfl)) (by decide) (by decide) rfl ?_
            refine wa_cons rfl ?_
            refine we_var 5 _ rfl (by first | exact Or.inl rfl | exact Or.inr (Or.inl rfl) | exact Or.inr (Or.inr rfl)) (by decide) (by decide) rfl ?_
            refine wa_nil ?_
            refine ⟨(by first | trivial | exact fun p h => h), (by first | trivial | exact fun p h => h), ?_⟩
            refine ⟨nb_of ⟨trivial, trivial, trivial⟩, Nat.le_of_ble_eq_true rfl, ?_⟩
            refine we_ix ix_seq o2_ix (fun _ _ => rfl) ?_
            refine we_bor 1 _ _ rfl (by first | exact Or.inl rfl | exact Or.inr (Or.inl rfl) | exact Or.inr (Or.inr rfl)) (by decide) (by decide) rfl ?_
            refine we_neg ?_
            refine we_int ?_
            refine ⟨1, rfl, ?_⟩
            refine ⟨(by first | trivial | exact fun p h => h), _, (.lst _ _ _ (at_last hl)), ?_⟩
            refine ⟨(by first | trivial | exact fun p h => h), _, (.mk [(i : Int), (i : Int) + 1 + (j : Int)] [l.1, l.2]), ?_⟩
            refine ⟨?_, rfl⟩
            have e2 : afterL ts t = tlt l t := by unfold afterL; rw [hl]
            rw [e2, ← gtT_tie, ht]
            rfl
          · have hb : ts = [] := of_decide_eq_true hb
            refine ⟨?_, rfl⟩
            rw [hb]
            rfl
        · intro k ρ' hk
          obtain ⟨hk, e⟩ := hk
          subst e
          refine ⟨fun hb => ?_, fun hb => ⟨by rw [← hk, hb]; rfl, rfl⟩⟩
          refine ww_and1 ?_
          refine wt_cmp (op_inA (by exact room_u I.r)) o2_in rfl ?_
          refine we_var 2 _ rfl (by first | exact Or.inl rfl | exact Or.inr (Or.inl rfl) | exact Or.inr (Or.inr rfl)) (by decide) (by decide) rfl ?_
          refine we_tup (by decide) ?_
          refine wa_cons rfl ?_
          refine we_var 4 _ rfl (by first | exact Or.inl rfl | exact Or.inr (Or.inl rfl) | exact Or.inr (Or.inr rfl)) (by decide) (by decide) rfl ?_
          refine wa_cons rfl ?_
          refine we_non ?_
          refine wa_nil ?_
          refine ⟨(by first | trivial | exact fun p h => h), (by first | trivial | exact fun p h => h), ?_⟩
          refine ⟨nb_of ⟨trivial, trivial, trivial⟩, Nat.le_of_ble_eq_true rfl, ?_⟩
          refine ⟨(by first | trivial | exact fun p h => h), _, (.tup _ _ (by cases fi <;> first | exact shp_none | exact shp_int _) (shp_pn _)), ?_⟩
          refine ⟨?_, rfl⟩
          show ([PyData.int (i : Int), .none].any fun z => PyData.eqv z (firD fi)) = _
          rw [first_in, ← hk, hb, Bool.true_and, ht]
          cases fi <;> rfl
      · intro k ρ' hk
        obtain ⟨hk, e⟩ := hk
        subst e
        refine ⟨fun hb => ?_, fun hb => ?_⟩
        · refine ws_cons ?_
          refine w1_append 3 (hap := rfl) rfl (by first | exact Or.inl rfl | exact Or.inr (Or.inl rfl) | exact Or.inr (Or.inr rfl)) (by decide) (by decide) rfl rfl rfl rfl rfl _ _ rfl ?_
          refine wa_cons rfl ?_
          refine we_tup (by decide) ?_
          refine wa_cons rfl ?_
          refine we_var 4 _ rfl (by first | exact Or.inl rfl | exact Or.inr (Or.inl rfl) | exact Or.inr (Or.inr rfl)) (by decide) (by decide) rfl ?_
          refine wa_cons rfl ?_
          refine we_var 5 _ rfl (by first | exact Or.inl rfl | exact Or.inr (Or.inl rfl) | exact Or.inr (Or.inr rfl)) (by decide) (by decide) rfl ?_
          refine wa_nil ?_
          refine ⟨(by first | trivial | exact fun p h => h), (by first | trivial | exact fun p h => h), ?_⟩
          refine ⟨nb_of ⟨trivial, trivial, trivial⟩, Nat.le_of_ble_eq_true rfl, ?_⟩
          refine wa_nil ?_
          refine ⟨(by first | trivial | exact fun p h => h), ?_⟩
          refine ⟨_, _, rfl, trivial, rfl, hfl, ?_⟩
          refine ws_nil ?_
          refine ws_nil ?_
          refine ⟨.dat (.int ((i : Int) + 1 + (j : Int))), ?_⟩
          have e3 : (allP m i ++ (rowT m i).take (j + 1)).filter (fun t => afterL ts t && okF fi t) = (allP m i ++ (rowT m i).take j).filter (fun t => afterL ts t && okF fi t) ++ [t] := by
            rw [hro, ← ht, ← List.append_assoc, List.filter_append (allP m i ++ (rowT m i).take j) [t], filter_one, if_pos (hk.symm.trans hb)]
          rw [e3, ht, ← tiesD_snoc]
          rfl
        · refine ws_nil ?_
          refine ws_nil ?_
          refine ⟨.dat (.int ((i : Int) + 1 + (j : Int))), ?_⟩
          have e3 : (allP m i ++ (rowT m i).take (j + 1)).filter (fun t => afterL ts t && okF fi t) = (allP m i ++ (rowT m i).take j).filter (fun t => afterL ts t && okF fi t) := by
            rw [hro, ← ht, ← List.append_assoc, List.filter_append (allP m i ++ (rowT m i).take j) [t], filter_one, if_neg (by rw [← hk, hb]; decide), List.append_nil]
          rw [e3]
    · subst e
      refine ws_nil ?_
      refine ⟨.dat (.int i), s5, ?_⟩
      have e2 : (rowT m i).take (m - ((i : Int) + 1)).toNat = rowT m i := by
        rw [List.take_of_length_le]
        unfold rowT
        rw [List.length_map, List.length_range]
        exact Nat.le_refl _
      rw [e2, ← allP_succ]
  · subst e
    refine ws_cons ?_
    refine w1_ret ?_
    refine we_bor 3 _ _ rfl (by first | exact Or.inl rfl | exact Or.inr (Or.inl rfl) | exact Or.inr (Or.inr rfl)) (by decide) (by decide) rfl ?_
    refine ⟨fun pp hh hm => ?_, _, .any (.own (.any .nil)), ?_⟩
    · cases hh
      exact hq (owns_start.mpr hm)
    · exact hR
end
end K

set_option maxHeartbeats 4000000
namespace K
open PySem PySem.Spec PyProof.Rows L2 Bs
abbrev s_law_read : Stmt := top 17
theorem sc_law_read : FnScope ["_law_text", "_law_letters", "_law_ties", "_law_first", "_law_stand", "_law_many", "_law_at", "_law_place"] ["_law_text"] (defScope s_law_read) := ⟨rfl, rfl, rfl, by decide +kernel, rfl, by decide +kernel, by decide +kernel⟩
/-! how a text is read -/
inductive Ph where
  | tie
  | fin (p : Int)
  | com
inductive Res where
  | err (k : Nat)
  | ok (m : Int) (ts : List Tie)
def plc (c : Nat) : Int := if 97 ≤ c ∧ c < 109 then (c : Int) - 97 else -1
def Ph.isCom : Ph → Bool
  | .com => true
  | _ => false
def go (m : Int) : List Nat → Nat → List Tie → Ph → Res
  | [], k, ts, ph => if ph.isCom = true ∨ k = 2 then .ok m ts else .err k
  | c :: cs, k, ts, .com => if c ≠ 44 ∨ ahead m ts none = [] then .err k else go m cs (k + 1) ts .tie
  | c :: cs, k, ts, .tie => if plc c < 0 ∨ ahead m ts (some (plc c)) = [] then .err k else go m cs (k + 1) ts (.fin (plc c))
  | c :: cs, k, ts, .fin p => if plc c < 0 ∨ (p, plc c) ∉ ahead m ts (some p) then .err k else go m cs (k + 1) (ts ++ [(p, plc c)]) .com
def readM : List Nat → Res
  | [] => .err 0
  | c :: cs => if plc c < 0 then .err 0 else match cs with
    | [] => .err 1
    | d :: ds => if d ≠ 58 then .err 1 else go (plc c + 1) ds 2 [] .tie
def resD : Res → PyData
  | .err k => .tuple [.int (k : Int), .none]
  | .ok m ts => .tuple [.none, webD m ts]
def stD : Ph → Str
  | .tie => "tie"
  | .fin _ => "end"
  | .com => "comma"
theorem plc_mem {c : Nat} : (c ∈ ("abcdefghijkl" : Str).cps.toList) ↔ 0 ≤ plc c := by
  rw [let_list]
  unfold plc
  simp only [List.mem_cons, List.not_mem_nil, or_false]
  split <;> omega
theorem plc_of {c : Nat} (h : 0 ≤ plc c) : ∃ j : Nat, j < 12 ∧ c = 97 + j ∧ plc c = (j : Int) := by
  unfold plc at h ⊢
  by_cases hc : 97 ≤ c ∧ c < 109
  · rw [if_pos hc]
    exact ⟨c - 97, by omega, by omega, by omega⟩
  · rw [if_neg hc] at h
    omega
theorem plc_at {j : Nat} (h : j < 12) : plc (97 + j) = (j : Int) := by
  unfold plc
  rw [if_pos (by omega)]
  omega
theorem find_one (c : Nat) : Txt.find "abcdefghijkl" (S [c]) = plc c := by
  by_cases h : 0 ≤ plc c
  · obtain ⟨j, hj, rfl, e⟩ := plc_of h
    unfold Txt.find
    rw [occ_let hj, e]
  · have hn : c ∉ ("abcdefghijkl" : Str).cps.toList := fun z => h (plc_mem.mp z)
    have e := PySem.StrLaws.found_one "abcdefghijkl" c
    rw [decide_eq_false hn] at e
    have e2 : Builtin.Str.occurrences "abcdefghijkl" (S [c]) 0 ("abcdefghijkl" : Str).length 1 = [] := by
      cases h2 : Builtin.Str.occurrences "abcdefghijkl" (S [c]) 0 ("abcdefghijkl" : Str).length 1 with
      | nil => rfl
      | cons a l =>
        rw [show (⟨#[c]⟩ : Str) = S [c] from rfl, h2] at e
        cases e
    unfold Txt.find
    rw [e2]
    unfold plc at h ⊢
    by_cases hc : 97 ≤ c ∧ c < 109
    · rw [if_pos hc] at h; omega
    · rw [if_neg hc]
theorem rd0 {c : Nat} {cs : List Nat} (h : plc c < 0) : readM (c :: cs) = .err 0 := if_pos h
theorem rd1 {c : Nat} (h : 0 ≤ plc c) : readM [c] = .err 1 := if_neg (by omega)
theorem rd2 {c d : Nat} {ds : List Nat} (h : 0 ≤ plc c) (hd : d ≠ 58) : readM (c :: d :: ds) = .err 1 := (if_neg (by omega)).trans (if_pos hd)
theorem rd3 {c : Nat} {ds : List Nat} (h : 0 ≤ plc c) : readM (c :: 58 :: ds) = go (plc c + 1) ds 2 [] .tie := (if_neg (by omega)).trans (if_neg (fun z => z rfl))
theorem eqv_tie (s t : Tie) : PyData.eqv (tieD s) (tieD t) = decide (s = t) := by
  show PyData.eqv (.tuple [.int s.1, .int s.2]) (.tuple [.int t.1, .int t.2]) = _
  have e : PyData.eqv (.tuple [.int s.1, .int s.2]) (.tuple [.int t.1, .int t.2]) = (PyData.eqv (.int s.1) (.int t.1) && (PyData.eqv (.int s.2) (.int t.2) && true)) := by simp [PyData.eqv, PyData.eqvAll]
  rw [e, eqv_ii, eqv_ii, Bool.and_true, Bool.eq_iff_iff, Bool.and_eq_true, decide_eq_true_eq, decide_eq_true_eq, decide_eq_true_eq]
  exact ⟨fun h => Prod.ext h.1 h.2, fun h => by rw [h]; exact ⟨rfl, rfl⟩⟩
theorem any_tie (ts : List Tie) (t : Tie) : ((tiesD ts).any fun z => PyData.eqv z (tieD t)) = decide (t ∈ ts) := by
  unfold tiesD
  rw [List.any_map, Bool.eq_iff_iff, List.any_eq_true, decide_eq_true_eq]
  constructor
  · rintro ⟨u, hu, h⟩
    have h : PyData.eqv (tieD u) (tieD t) = true := h
    rw [eqv_tie, decide_eq_true_eq] at h
    rw [← h]; exact hu
  · intro h
    exact ⟨t, h, by show PyData.eqv (tieD t) (tieD t) = true; rw [eqv_tie]; exact decide_eq_true rfl⟩
theorem shp_tie (x y : Int) : Shp (.tuple [.int x, .int y]) := shp_of (by simp [PyData.canLay0, PyData.canLayAll0]) (by simp [PyData.depth, PyData.depthAll])
theorem drop_at {xs : List Nat} {k c : Nat} (h : xs[k]? = some c) : xs.drop k = c :: xs.drop (k + 1) := by
  have hk := (List.getElem?_eq_some_iff.mp h).1
  rw [List.drop_eq_getElem_cons hk]
  rw [List.getElem?_eq_getElem hk] at h
  cases h
  rfl
theorem cps_at {xs : List Nat} {k c : Nat} {z : Int} (h : xs[k]? = some c) (hz : z = (k : Int)) : atI (S xs).cps.toList z = some c := by
  have hk := (List.getElem?_eq_some_iff.mp h).1
  show atI xs z = _
  unfold atI
  rw [hz, ix_nat hk]
  exact h
theorem cut12 (c d : Nat) (ds : List Nat) : cutS (S (c :: d :: ds)) (some 1) (some 2) = S [d] := cutS_one (xs := c :: d :: ds) (i := 1) rfl
theorem cut12n (c : Nat) : cutS (S [c]) (some 1) (some 2) = S [] := by
  unfold cutS
  have e1 : HT.sIx (S [c]).length 0 (some 1) = 1 := by
    have := HT.sIx_nat (S [c]).length 0 1
    rw [show (1 : Int) = ((1 : Nat) : Int) from rfl, this, S_len]
    rfl
  have e2 : HT.sIx (S [c]).length (S [c]).length (some 2) = 1 := by
    have := HT.sIx_nat (S [c]).length (S [c]).length 2
    rw [show (2 : Int) = ((2 : Nat) : Int) from rfl, this, S_len]
    rfl
  rw [e1, e2]
  rfl
section
variable {P : Program} {w : World} {K : PySem.W.Frag} {mg : Str → Option Value} {base : Heap}
def slF : Ph → Sl → Prop
  | .fin p, s => s = .dat (.int p)
  | _, _ => True
def spRead : BSp := fun as R _ => ∃ xs, as = [.dat (.str (S xs))] ∧ xs.length ≤ 90000 ∧ R (.d (resD (readM xs))) [.any]
theorem ok_law_read (M : NoSh mg) (D1 : Df P w K mg base 1 "_law_ahead" ["_law_many", "_law_ties", "_law_first"] spAhead) (h : Has K mg "_law_read" s_law_read ["_law_text"]) : Df P w K mg base 2 "_law_read" ["_law_text"] spRead := by
  refine h.df (k := 1) sc_law_read (fun as R Y ⟨_, e, _⟩ => by rw [e]; rfl) fun f cdv A outer s H E I as R Y ⟨xs, e, hl, hR⟩ => ?_
  subst e
  have nd := sc_law_read.nd
  have hz : (S xs).length ≤ sizeLine := small (by rw [S_len]; omega)
  refine ws_cons ?_
  refine w1_par4 1 2 3 4 (pg_tup rfl (pgs_cons (pg_name nd rfl (.inl rfl)) (pgs_cons (pg_name nd rfl (.inl rfl)) (pgs_cons (pg_name nd rfl (.inl rfl)) (pgs_cons (pg_name nd rfl (.inl rfl)) pgs_nil))))) rfl rfl rfl ?_
  refine wa_cons rfl ?_
  refine we_str ?_
  refine wa_cons rfl ?_
  refine we_lst ?_
  refine wa_nil ?_
  refine ⟨nb_of trivial, Nat.le_of_ble_eq_true rfl, ?_⟩
  refine wa_cons rfl ?_
  refine we_non ?_
  refine wa_cons rfl ?_
  refine we_str ?_
  refine wa_nil ?_
  refine ⟨(by first | trivial | exact fun p h => h), (by first | trivial | exact fun p h => h), (by first | trivial | exact fun p h => h), (by first | trivial | exact fun p h => h), ?_⟩
  refine ⟨_, _, _, _, rfl, fun q hq => ?_⟩
  refine ws_cons ?_
  refine w1_if ?_
  refine wt_ww ?_
  refine ww_or ?_
  refine wt_cmp op_eq o2_eqS (nomark _) ?_
  refine we_var 0 _ rfl (by first | exact Or.inl rfl | exact Or.inr (Or.inl rfl) | exact Or.inr (Or.inr rfl)) (by decide) (by decide) rfl ?_
  refine we_str ?_
  refine ⟨(by first | trivial | exact fun p h => h), _, (.mk _ _), ?_⟩
  refine ⟨fun hb => ?_, fun hb => ?_⟩
  · have hne : xs ≠ [] := fun z => of_decide_eq_false hb (by rw [z]; decide +kernel)
    obtain ⟨c, cs, rfl⟩ := List.exists_cons_of_ne_nil hne
    refine ww_or1 ?_
    refine wt_cmp op_notInSA o2_inS rfl ?_
    refine we_ix ix_seq o2_ix (fun _ _ => rfl) ?_
    refine we_var 0 _ rfl (by first | exact Or.inl rfl | exact Or.inr (Or.inl rfl) | exact Or.inr (Or.inr rfl)) (by decide) (by decide) rfl ?_
    refine we_int ?_
    refine ⟨(by first | trivial | exact fun p h => h), _, (.str _ _ _ hz (atn0 c cs)), ?_⟩
    refine we_var 1 _ rfl (by first | exact Or.inl rfl | exact Or.inr (Or.inl rfl) | exact Or.inr (Or.inr rfl)) (by decide) (by decide) rfl ?_
    refine ⟨(by first | trivial | exact fun p h => h), _, (.mk _ _), ?_⟩
    refine ⟨fun hb => ?_, fun hb => ?_⟩
    · have hb : c ∉ ("abcdefghijkl" : Str).cps.toList := of_decide_eq_false (not_true' hb)
      have hp : plc c < 0 := by
        rcases Int.lt_or_le (plc c) 0 with h | h
        · exact h
        · exact absurd (plc_mem.mpr h) hb
      have e : readM (c :: cs) = .err 0 := rd0 hp
      rw [e] at hR
      refine ws_cons ?_
      refine w1_ret ?_
      refine we_tup (by decide) ?_
      refine wa_cons rfl ?_
      refine we_int ?_
      refine wa_cons rfl ?_
      refine we_non ?_
      refine wa_nil ?_
      refine ⟨(by first | trivial | exact fun p h => h), (by first | trivial | exact fun p h => h), ?_⟩
      refine ⟨nb_of ⟨trivial, trivial, trivial⟩, Nat.le_of_ble_eq_true rfl, ?_⟩
      refine ⟨_, Back.any (Back.nil), ?_⟩
      exact hR
    · have hb : c ∈ ("abcdefghijkl" : Str).cps.toList := of_decide_eq_true (not_false' hb)
      have hp : 0 ≤ plc c := plc_mem.mp hb
      obtain ⟨j, hj, rfl, ej⟩ := plc_of hp
      refine ws_nil ?_
      refine ws_cons ?_
      refine w1_set 5 nd rfl (by first | exact Or.inl rfl | exact Or.inr rfl) rfl (by first | exact Or.inl rfl | exact Or.inr rfl) ?_
      refine we_op2 op_addA o2_add ?_
      refine we_strM PySem.F.slot_str_index PySem.F.type_str_index mt_sindex oM_index rfl rfl rfl rfl rfl ?_
      refine we_var 1 _ rfl (by first | exact Or.inl rfl | exact Or.inr (Or.inl rfl) | exact Or.inr (Or.inr rfl)) (by decide) (by decide) rfl ?_
      refine ⟨⟨_, rfl⟩, ?_⟩
      refine wa_cons rfl ?_
      refine we_ix ix_seq o2_ix (fun _ _ => rfl) ?_
      refine we_var 0 _ rfl (by first | exact Or.inl rfl | exact Or.inr (Or.inl rfl) | exact Or.inr (Or.inr rfl)) (by decide) (by decide) rfl ?_
      refine we_int ?_
      refine ⟨(by first | trivial | exact fun p h => h), _, (.str _ _ _ hz (atn0 _ cs)), ?_⟩
      refine wa_nil ?_
      refine ⟨(by first | trivial | exact fun p h => h), ?_⟩
      refine ⟨_, .mk _ _ j [] (occ_let hj), ?_⟩
      refine we_int ?_
      refine ⟨(by first | trivial | exact fun p h => h), _, (.int _ _), ?_⟩
      obtain ⟨m, hm⟩ : ∃ m : Int, m = (j : Int) + 1 := ⟨_, rfl⟩
      rw [← hm]
      have h0 : 1 ≤ m := by omega
      have h1 : m ≤ 12 := by omega
      refine ws_cons ?_
      refine w1_if ?_
      refine wt_cmp op_ne o2_neS (nomark _) ?_
      refine we_slice sl_str oS_str ?_
      refine we_var 0 _ rfl (by first | exact Or.inl rfl | exact Or.inr (Or.inl rfl) | exact Or.inr (Or.inr rfl)) (by decide) (by decide) rfl ?_
      refine we_int ?_
      refine ⟨1, rfl, ?_⟩
      refine we_int ?_
      refine ⟨2, rfl, ?_⟩
      refine ⟨(by first | trivial | exact fun p h => h), _, (.str _ _ _ hz), ?_⟩
      refine we_str ?_
      refine ⟨(by first | trivial | exact fun p h => h), _, (.mk _ _), ?_⟩
      refine ⟨fun hb => ?_, fun hb => ?_⟩
      · have hb := of_decide_eq_false (not_true' hb)
        have e : readM ((97 + j) :: cs) = .err 1 := by
          cases cs with
          | nil => exact rd1 hp
          | cons d ds => exact rd2 hp fun z => hb (by rw [z, cut12]; exact S_col.symm)
        rw [e] at hR
        refine ws_cons ?_
        refine w1_ret ?_
        refine we_tup (by decide) ?_
        refine wa_cons rfl ?_
        refine we_int ?_
        refine wa_cons rfl ?_
        refine we_non ?_
        refine wa_nil ?_
        refine ⟨(by first | trivial | exact fun p h => h), (by first | trivial | exact fun p h => h), ?_⟩
        refine ⟨nb_of ⟨trivial, trivial, trivial⟩, Nat.le_of_ble_eq_true rfl, ?_⟩
        refine ⟨_, Back.any (Back.nil), ?_⟩
        exact hR
      · have hb := of_decide_eq_true (not_false' hb)
        obtain ⟨ds, rfl⟩ : ∃ ds, cs = 58 :: ds := by
          cases cs with
          | nil => rw [cut12n, S_col] at hb; exact absurd (S_inj hb) (fun z => by cases z)
          | cons d ds =>
            rw [cut12, S_col] at hb
            have := S_inj hb
            exact ⟨ds, by simpa using this⟩
        have eR : readM ((97 + j) :: 58 :: ds) = go m ds 2 [] .tie := by rw [rd3 hp, ej, hm]
        rw [eR] at hR
        obtain ⟨xs, hxs⟩ : ∃ xs, xs = (97 + j) :: 58 :: ds := ⟨_, rfl⟩
        have hds : ds = xs.drop 2 := by rw [hxs]; rfl
        have hlen2 : 2 ≤ xs.length := by rw [hxs]; simp
        rw [← hxs] at hz hl
        rw [← hxs]
        refine ws_nil ?_
        refine ws_cons ?_
        refine w1_forR2 (g := fun _ => gName 6) (passes_of rfl) rfl (pg_name nd rfl (by first | exact Or.inl rfl | exact Or.inr rfl)) (tg_name 6) rfl (M _ (by decide)) rfl rfl (fun _ => rfl) ?_
        refine wa_cons rfl ?_
        refine we_int ?_
        refine wa_cons rfl ?_
        refine we_callB call_len oN_len rfl (M _ (by decide)) rfl (by decide) (by decide) rfl rfl ?_
        refine wa_cons rfl ?_
        refine we_var 0 _ rfl (by first | exact Or.inl rfl | exact Or.inr (Or.inl rfl) | exact Or.inr (Or.inr rfl)) (by decide) (by decide) rfl ?_
        refine wa_nil ?_
        refine ⟨(by first | trivial | exact fun p h => h), ?_⟩
        refine ⟨_, .str _ hz, ?_⟩
        refine wa_nil ?_
        refine ⟨(by first | trivial | exact fun p h => h), (by first | trivial | exact fun p h => h), ?_⟩
        rw [S_len]
        refine ⟨2, (xs.length : Int), rfl, by omega, by omega, fun i ρ => ∃ ts ph s3 s6 s7, ρ = [.dat (.str (S xs)), .dat (.str "abcdefghijkl"), .own q (tiesD ts), s3, .dat (.str (stD ph)), .dat (.int m), s6, s7] ∧ slF ph s3 ∧ ts.length ≤ i ∧ go m (xs.drop (2 + i)) (2 + i) ts ph = go m ds 2 [] .tie,
          ⟨[], .tie, _, _, _, rfl, trivial, Nat.zero_le _, by rw [hds]⟩, fun i ρ hi ⟨ts, ph, s3, s6, s7, e, hs3, hts, hgo⟩ => ?_, fun ρ ⟨ts, ph, s3, s6, s7, e, hs3, hts, hgo⟩ => ?_⟩
        · subst e
          refine ⟨_, rfl, ?_⟩
          have hi2 : 2 + i < xs.length := by omega
          obtain ⟨c, hc⟩ : ∃ c, xs[2 + i]? = some c := ⟨_, List.getElem?_eq_getElem hi2⟩
          have hat : atI (S xs).cps.toList (2 + (i : Int)) = some c := cps_at hc (by omega)
          rw [drop_at hc] at hgo
          refine ws_cons ?_
          refine w1_set 7 nd rfl (by first | exact Or.inl rfl | exact Or.inr rfl) rfl (by first | exact Or.inl rfl | exact Or.inr rfl) ?_
          refine we_strM PySem.F.slot_str_find PySem.F.type_str_find mt_find oM_find rfl rfl rfl rfl rfl ?_
          refine we_var 1 _ rfl (by first | exact Or.inl rfl | exact Or.inr (Or.inl rfl) | exact Or.inr (Or.inr rfl)) (by decide) (by decide) rfl ?_
          refine ⟨⟨_, rfl⟩, ?_⟩
          refine wa_cons rfl ?_
          refine we_ix ix_seq o2_ix (fun _ _ => rfl) ?_
          refine we_var 0 _ rfl (by first | exact Or.inl rfl | exact Or.inr (Or.inl rfl) | exact Or.inr (Or.inr rfl)) (by decide) (by decide) rfl ?_
          refine we_var 6 _ rfl (by first | exact Or.inl rfl | exact Or.inr (Or.inl rfl) | exact Or.inr (Or.inr rfl)) (by decide) (by decide) rfl ?_
          refine ⟨(by first | trivial | exact fun p h => h), _, (.str _ _ _ hz hat), ?_⟩
          refine wa_nil ?_
          refine ⟨(by first | trivial | exact fun p h => h), ?_⟩
          refine ⟨_, .mk _ _, ?_⟩
          rw [S_one, find_one]
          have hcast : ((2 + i : Nat) : Int) = 2 + (i : Int) := by omega
          have fail : go m (c :: xs.drop (2 + i + 1)) (2 + i) ts ph = .err (2 + i) → R (.d (.tuple [.int (2 + (i : Int)), .none])) [.any] := fun z => by
            rw [← hgo, z] at hR
            have hR : R (.d (.tuple [.int ((2 + i : Nat) : Int), .none])) [.any] := hR
            rw [hcast] at hR
            exact hR
          have step : ∀ ts' ph', go m (c :: xs.drop (2 + i + 1)) (2 + i) ts ph = go m (xs.drop (2 + i + 1)) (2 + i + 1) ts' ph' → go m (xs.drop (2 + (i + 1))) (2 + (i + 1)) ts' ph' = go m ds 2 [] .tie := fun ts' ph' z => by
            rw [← hgo, z]
            rfl
          have hts' : ts.length ≤ 100000 := by omega
          cases ph with
          | com =>
            refine ws_cons ?_
            refine w1_if ?_
            refine wt_cmp op_eq o2_eqS (nomark _) ?_
            refine we_var 4 _ rfl (by first | exact Or.inl rfl | exact Or.inr (Or.inl rfl) | exact Or.inr (Or.inr rfl)) (by decide) (by decide) rfl ?_
            refine we_str ?_
            refine ⟨(by first | trivial | exact fun p h => h), _, (.mk _ _), ?_⟩
            refine ⟨fun hb => ?_, fun hb => ?_⟩
            · refine ws_cons ?_
              refine w1_if ?_
              refine wt_ww ?_
              refine ww_or ?_
              refine wt_cmp op_ne o2_neS (nomark _) ?_
              refine we_ix ix_seq o2_ix (fun _ _ => rfl) ?_
              refine we_var 0 _ rfl (by first | exact Or.inl rfl | exact Or.inr (Or.inl rfl) | exact Or.inr (Or.inr rfl)) (by decide) (by decide) rfl ?_
              refine we_var 6 _ rfl (by first | exact Or.inl rfl | exact Or.inr (Or.inl rfl) | exact Or.inr (Or.inr rfl)) (by decide) (by decide) rfl ?_
              refine ⟨(by first | trivial | exact fun p h => h), _, (.str _ _ _ hz hat), ?_⟩
              refine we_str ?_
              refine ⟨(by first | trivial | exact fun p h => h), _, (.mk _ _), ?_⟩
              refine ⟨fun hb => ?_, fun hb => ?_⟩
              · have hb := of_decide_eq_true (not_false' hb)
                rw [S_one, S_com] at hb
                have h44 : c = 44 := by simpa using S_inj hb
                refine ww_or1 ?_
                refine wt_cmp (op_eqD (by exact room_u64 I.r)) o2_eq (nomark _) ?_
                refine we_callM (Df.cal D1 (InD.mono I (by omega))) .nil (drs := []) (fun _ _ => DpAll.nil) rfl (by decide) rfl rfl ?_
                refine wa_cons rfl ?_
                refine we_var 5 _ rfl (by first | exact Or.inl rfl | exact Or.inr (Or.inl rfl) | exact Or.inr (Or.inr rfl)) (by decide) (by decide) rfl ?_
                refine wa_cons rfl ?_
                refine we_bor 2 _ _ rfl (by first | exact Or.inl rfl | exact Or.inr (Or.inl rfl) | exact Or.inr (Or.inr rfl)) (by decide) (by decide) rfl ?_
                refine wa_cons rfl ?_
                refine we_non ?_
                refine wa_nil ?_
                refine ⟨(by first | trivial | exact fun p h => h), (by first | trivial | exact fun p h => h), (by first | trivial | exact fun p h => h), ?_⟩
                refine ⟨.int m, 2, q, tiesD ts, [.d .none], rfl, nb_of ⟨trivial, trivial⟩, rfl, ?_⟩
                refine ⟨m, q, ts, none, rfl, h0, h1, hts', _, _, _, rfl, ?_⟩
                refine we_lst ?_
                refine wa_nil ?_
                refine ⟨nb_of trivial, Nat.le_of_ble_eq_true rfl, ?_⟩
                refine ⟨(by first | trivial | exact fun p h => h), _, (SEq.of (shp_ties _) (by decide +kernel) (eqv_nil _)), ?_⟩
                refine ⟨fun hb => ?_, fun hb => ?_⟩
                · have hb := of_decide_eq_true hb
                  refine ws_cons ?_
                  refine w1_ret ?_
                  refine we_tup (by decide) ?_
                  refine wa_cons rfl ?_
                  refine we_var 6 _ rfl (by first | exact Or.inl rfl | exact Or.inr (Or.inl rfl) | exact Or.inr (Or.inr rfl)) (by decide) (by decide) rfl ?_
                  refine wa_cons rfl ?_
                  refine we_non ?_
                  refine wa_nil ?_
                  refine ⟨(by first | trivial | exact fun p h => h), (by first | trivial | exact fun p h => h), ?_⟩
                  refine ⟨nb_of ⟨trivial, trivial, trivial⟩, Nat.le_of_ble_eq_true rfl, ?_⟩
                  refine ⟨_, Back.any (Back.nil), ?_⟩
                  exact fail (if_pos (.inr hb))
                · have hb := of_decide_eq_false hb
                  refine ws_nil ?_
                  refine ws_cons ?_
                  refine w1_set 4 nd rfl (by first | exact Or.inl rfl | exact Or.inr rfl) rfl (by first | exact Or.inl rfl | exact Or.inr rfl) ?_
                  refine we_str ?_
                  refine ws_nil ?_
                  refine ws_nil ?_
                  exact ⟨ts, .tie, _, _, _, rfl, trivial, by omega, step _ _ (if_neg (fun z => z.elim (fun z => z h44) hb))⟩
              · have hb := of_decide_eq_false (not_true' hb)
                refine ⟨fun _ => ?_, fun z => nomatch z⟩
                refine ws_cons ?_
                refine w1_ret ?_
                refine we_tup (by decide) ?_
                refine wa_cons rfl ?_
                refine we_var 6 _ rfl (by first | exact Or.inl rfl | exact Or.inr (Or.inl rfl) | exact Or.inr (Or.inr rfl)) (by decide) (by decide) rfl ?_
                refine wa_cons rfl ?_
                refine we_non ?_
                refine wa_nil ?_
                refine ⟨(by first | trivial | exact fun p h => h), (by first | trivial | exact fun p h => h), ?_⟩
                refine ⟨nb_of ⟨trivial, trivial, trivial⟩, Nat.le_of_ble_eq_true rfl, ?_⟩
                refine ⟨_, Back.any (Back.nil), ?_⟩
                exact fail (if_pos (.inl fun z => hb (by rw [z]; exact S_com.symm)))
            · exact ws_never (of_decide_eq_false hb rfl)
          | tie =>
            refine ws_cons ?_
            refine w1_if ?_
            refine wt_cmp op_eq o2_eqS (nomark _) ?_
            refine we_var 4 _ rfl (by first | exact Or.inl rfl | exact Or.inr (Or.inl rfl) | exact Or.inr (Or.inr rfl)) (by decide) (by decide) rfl ?_
            refine we_str ?_
            refine ⟨(by first | trivial | exact fun p h => h), _, (.mk _ _), ?_⟩
            refine ⟨fun hb => ?_, fun hb => ?_⟩
            · exact ws_never (absurd (of_decide_eq_true hb) (by decide +kernel))
            · refine ws_cons ?_
              refine w1_if ?_
              refine wt_cmp op_eq o2_eqS (nomark _) ?_
              refine we_var 4 _ rfl (by first | exact Or.inl rfl | exact Or.inr (Or.inl rfl) | exact Or.inr (Or.inr rfl)) (by decide) (by decide) rfl ?_
              refine we_str ?_
              refine ⟨(by first | trivial | exact fun p h => h), _, (.mk _ _), ?_⟩
              refine ⟨fun hb => ?_, fun hb => ?_⟩
              · refine ws_cons ?_
                refine w1_if ?_
                refine wt_ww ?_
                refine ww_or ?_
                refine wt_cmp op_lt o2_C (nomark _) ?_
                refine we_var 7 _ rfl (by first | exact Or.inl rfl | exact Or.inr (Or.inl rfl) | exact Or.inr (Or.inr rfl)) (by decide) (by decide) rfl ?_
                refine we_int ?_
                refine ⟨(by first | trivial | exact fun p h => h), _, (by constructor), ?_⟩
                refine ⟨fun hb => ?_, fun hb => ?_⟩
                · have hb : ¬ plc c < 0 := of_decide_eq_false hb
                  refine ww_or1 ?_
                  refine wt_cmp (op_eqD (by exact room_u64 I.r)) o2_eq (nomark _) ?_
                  refine we_callM (Df.cal D1 (InD.mono I (by omega))) .nil (drs := []) (fun _ _ => DpAll.nil) rfl (by decide) rfl rfl ?_
                  refine wa_cons rfl ?_
                  refine we_var 5 _ rfl (by first | exact Or.inl rfl | exact Or.inr (Or.inl rfl) | exact Or.inr (Or.inr rfl)) (by decide) (by decide) rfl ?_
                  refine wa_cons rfl ?_
                  refine we_bor 2 _ _ rfl (by first | exact Or.inl rfl | exact Or.inr (Or.inl rfl) | exact Or.inr (Or.inr rfl)) (by decide) (by decide) rfl ?_
                  refine wa_cons rfl ?_
                  refine we_var 7 _ rfl (by first | exact Or.inl rfl | exact Or.inr (Or.inl rfl) | exact Or.inr (Or.inr rfl)) (by decide) (by decide) rfl ?_
                  refine wa_nil ?_
                  refine ⟨(by first | trivial | exact fun p h => h), (by first | trivial | exact fun p h => h), (by first | trivial | exact fun p h => h), ?_⟩
                  refine ⟨.int m, 2, q, tiesD ts, [.d (.int (plc c))], rfl, nb_of ⟨trivial, trivial⟩, rfl, ?_⟩
                  refine ⟨m, q, ts, some (plc c), rfl, h0, h1, hts', _, _, _, rfl, ?_⟩
                  refine we_lst ?_
                  refine wa_nil ?_
                  refine ⟨nb_of trivial, Nat.le_of_ble_eq_true rfl, ?_⟩
                  refine ⟨(by first | trivial | exact fun p h => h), _, (SEq.of (shp_ties _) (by decide +kernel) (eqv_nil _)), ?_⟩
                  have hbp := hb
                  refine ⟨fun hb => ?_, fun hb => ?_⟩
                  · have hb := of_decide_eq_true hb
                    refine ws_cons ?_
                    refine w1_ret ?_
                    refine we_tup (by decide) ?_
                    refine wa_cons rfl ?_
                    refine we_var 6 _ rfl (by first | exact Or.inl rfl | exact Or.inr (Or.inl rfl) | exact Or.inr (Or.inr rfl)) (by decide) (by decide) rfl ?_
                    refine wa_cons rfl ?_
                    refine we_non ?_
                    refine wa_nil ?_
                    refine ⟨(by first | trivial | exact fun p h => h), (by first | trivial | exact fun p h => h), ?_⟩
                    refine ⟨nb_of ⟨trivial, trivial, trivial⟩, Nat.le_of_ble_eq_true rfl, ?_⟩
                    refine ⟨_, Back.any (Back.nil), ?_⟩
                    exact fail (if_pos (.inr hb))
                  · have hb := of_decide_eq_false hb
                    refine ws_nil ?_
                    refine ws_cons ?_
                    refine w1_par 3 4 rfl nd rfl rfl (by decide) rfl rfl rfl rfl ?_
                    refine wa_cons rfl ?_
                    refine we_var 7 _ rfl (by first | exact Or.inl rfl | exact Or.inr (Or.inl rfl) | exact Or.inr (Or.inr rfl)) (by decide) (by decide) rfl ?_
                    refine wa_cons rfl ?_
                    refine we_str ?_
                    refine wa_nil ?_
                    refine ⟨(by first | trivial | exact fun p h => h), (by first | trivial | exact fun p h => h), ?_⟩
                    refine ⟨_, _, rfl, ?_⟩
                    refine ws_nil ?_
                    refine ws_nil ?_
                    refine ws_nil ?_
                    exact ⟨ts, .fin (plc c), _, _, _, rfl, rfl, by omega, step _ _ (if_neg (fun z => z.elim hbp hb))⟩
                · have hb : plc c < 0 := of_decide_eq_true hb
                  refine ⟨fun _ => ?_, fun z => nomatch z⟩
                  refine ws_cons ?_
                  refine w1_ret ?_
                  refine we_tup (by decide) ?_
                  refine wa_cons rfl ?_
                  refine we_var 6 _ rfl (by first | exact Or.inl rfl | exact Or.inr (Or.inl rfl) | exact Or.inr (Or.inr rfl)) (by decide) (by decide) rfl ?_
                  refine wa_cons rfl ?_
                  refine we_non ?_
                  refine wa_nil ?_
                  refine ⟨(by first | trivial | exact fun p h => h), (by first | trivial | exact fun p h => h), ?_⟩
                  refine ⟨nb_of ⟨trivial, trivial, trivial⟩, Nat.le_of_ble_eq_true rfl, ?_⟩
                  refine ⟨_, Back.any (Back.nil), ?_⟩
                  exact fail (if_pos (.inl hb))
              · exact ws_never (of_decide_eq_false hb rfl)
          | fin p =>
            have hs3 : s3 = .dat (.int p) := hs3
            subst hs3
            refine ws_cons ?_
            refine w1_if ?_
            refine wt_cmp op_eq o2_eqS (nomark _) ?_
            refine we_var 4 _ rfl (by first | exact Or.inl rfl | exact Or.inr (Or.inl rfl) | exact Or.inr (Or.inr rfl)) (by decide) (by decide) rfl ?_
            refine we_str ?_
            refine ⟨(by first | trivial | exact fun p h => h), _, (.mk _ _), ?_⟩
            refine ⟨fun hb => ?_, fun hb => ?_⟩
            · exact ws_never (absurd (of_decide_eq_true hb) (show ¬ ("end" : Str) = "comma" by decide +kernel))
            · refine ws_cons ?_
              refine w1_if ?_
              refine wt_cmp op_eq o2_eqS (nomark _) ?_
              refine we_var 4 _ rfl (by first | exact Or.inl rfl | exact Or.inr (Or.inl rfl) | exact Or.inr (Or.inr rfl)) (by decide) (by decide) rfl ?_
              refine we_str ?_
              refine ⟨(by first | trivial | exact fun p h => h), _, (.mk _ _), ?_⟩
              refine ⟨fun hb => ?_, fun hb => ?_⟩
              · exact ws_never (absurd (of_decide_eq_true hb) (show ¬ ("end" : Str) = "tie" by decide +kernel))
              · refine ws_cons ?_
                refine w1_if ?_
                refine wt_ww ?_
                refine ww_or ?_
                refine wt_cmp op_lt o2_C (nomark _) ?_
                refine we_var 7 _ rfl (by first | exact Or.inl rfl | exact Or.inr (Or.inl rfl) | exact Or.inr (Or.inr rfl)) (by decide) (by decide) rfl ?_
                refine we_int ?_
                refine ⟨(by first | trivial | exact fun p h => h), _, (by constructor), ?_⟩
                refine ⟨fun hb => ?_, fun hb => ?_⟩
                · have hbp : ¬ plc c < 0 := of_decide_eq_false hb
                  refine ww_or1 ?_
                  refine wt_cmp (op_notInA (by exact room_u I.r)) o2_in rfl ?_
                  refine we_tup (by decide) ?_
                  refine wa_cons rfl ?_
                  refine we_var 3 _ rfl (by first | exact Or.inl rfl | exact Or.inr (Or.inl rfl) | exact Or.inr (Or.inr rfl)) (by decide) (by decide) rfl ?_
                  refine wa_cons rfl ?_
                  refine we_var 7 _ rfl (by first | exact Or.inl rfl | exact Or.inr (Or.inl rfl) | exact Or.inr (Or.inr rfl)) (by decide) (by decide) rfl ?_
                  refine wa_nil ?_
                  refine ⟨(by first | trivial | exact fun p h => h), (by first | trivial | exact fun p h => h), ?_⟩
                  refine ⟨nb_of ⟨trivial, trivial, trivial⟩, Nat.le_of_ble_eq_true rfl, ?_⟩
                  refine we_callM (Df.cal D1 (InD.mono I (by omega))) .nil (drs := []) (fun _ _ => DpAll.nil) rfl (by decide) rfl rfl ?_
                  refine wa_cons rfl ?_
                  refine we_var 5 _ rfl (by first | exact Or.inl rfl | exact Or.inr (Or.inl rfl) | exact Or.inr (Or.inr rfl)) (by decide) (by decide) rfl ?_
                  refine wa_cons rfl ?_
                  refine we_bor 2 _ _ rfl (by first | exact Or.inl rfl | exact Or.inr (Or.inl rfl) | exact Or.inr (Or.inr rfl)) (by decide) (by decide) rfl ?_
                  refine wa_cons rfl ?_
                  refine we_var 3 _ rfl (by first | exact Or.inl rfl | exact Or.inr (Or.inl rfl) | exact Or.inr (Or.inr rfl)) (by decide) (by decide) rfl ?_
                  refine wa_nil ?_
                  refine ⟨(by first | trivial | exact fun p h => h), (by first | trivial | exact fun p h => h), (by first | trivial | exact fun p h => h), ?_⟩
                  refine ⟨.int m, 2, q, tiesD ts, [.d (.int p)], rfl, nb_of ⟨trivial, trivial⟩, rfl, ?_⟩
                  refine ⟨m, q, ts, some p, rfl, h0, h1, hts', _, _, _, rfl, ?_⟩
                  refine ⟨(by first | trivial | exact fun p h => h), _, (.lst _ _ (shp_tie _ _) (shp_ties _)), ?_⟩
                  refine ⟨fun hb => ?_, fun hb => ?_⟩
                  · have hb : (!((tiesD (ahead m ts (some p))).any fun z => PyData.eqv z (tieD (p, plc c)))) = true := hb
                    rw [any_tie] at hb
                    refine ws_cons ?_
                    refine w1_ret ?_
                    refine we_tup (by decide) ?_
                    refine wa_cons rfl ?_
                    refine we_var 6 _ rfl (by first | exact Or.inl rfl | exact Or.inr (Or.inl rfl) | exact Or.inr (Or.inr rfl)) (by decide) (by decide) rfl ?_
                    refine wa_cons rfl ?_
                    refine we_non ?_
                    refine wa_nil ?_
                    refine ⟨(by first | trivial | exact fun p h => h), (by first | trivial | exact fun p h => h), ?_⟩
                    refine ⟨nb_of ⟨trivial, trivial, trivial⟩, Nat.le_of_ble_eq_true rfl, ?_⟩
                    refine ⟨_, Back.any (Back.nil), ?_⟩
                    exact fail (if_pos (.inr (of_decide_eq_false (not_true' hb))))
                  · have hb : (!((tiesD (ahead m ts (some p))).any fun z => PyData.eqv z (tieD (p, plc c)))) = false := hb
                    rw [any_tie] at hb
                    have hb := of_decide_eq_true (not_false' hb)
                    refine ws_nil ?_
                    refine ws_cons ?_
                    refine w1_append 2 (hap := rfl) rfl (by first | exact Or.inl rfl | exact Or.inr (Or.inl rfl) | exact Or.inr (Or.inr rfl)) (by decide) (by decide) rfl rfl rfl rfl rfl _ _ rfl ?_
                    refine wa_cons rfl ?_
                    refine we_tup (by decide) ?_
                    refine wa_cons rfl ?_
                    refine we_var 3 _ rfl (by first | exact Or.inl rfl | exact Or.inr (Or.inl rfl) | exact Or.inr (Or.inr rfl)) (by decide) (by decide) rfl ?_
                    refine wa_cons rfl ?_
                    refine we_var 7 _ rfl (by first | exact Or.inl rfl | exact Or.inr (Or.inl rfl) | exact Or.inr (Or.inr rfl)) (by decide) (by decide) rfl ?_
                    refine wa_nil ?_
                    refine ⟨(by first | trivial | exact fun p h => h), (by first | trivial | exact fun p h => h), ?_⟩
                    refine ⟨nb_of ⟨trivial, trivial, trivial⟩, Nat.le_of_ble_eq_true rfl, ?_⟩
                    refine wa_nil ?_
                    refine ⟨(by first | trivial | exact fun p h => h), ?_⟩
                    refine ⟨_, _, rfl, trivial, rfl, by unfold tiesD; rw [List.length_map]; omega, ?_⟩
                    refine ws_cons ?_
                    refine w1_set 4 nd rfl (by first | exact Or.inl rfl | exact Or.inr rfl) rfl (by first | exact Or.inl rfl | exact Or.inr rfl) ?_
                    refine we_str ?_
                    refine ws_nil ?_
                    refine ws_nil ?_
                    refine ws_nil ?_
                    refine ⟨ts ++ [(p, plc c)], .com, _, _, _, by rw [← tiesD_snoc]; rfl, trivial, by rw [List.length_append]; show ts.length + 1 ≤ _; omega, step _ _ (if_neg (fun z => z.elim hbp (fun z => z hb)))⟩
                · have hb : plc c < 0 := of_decide_eq_true hb
                  refine ⟨fun _ => ?_, fun z => nomatch z⟩
                  refine ws_cons ?_
                  refine w1_ret ?_
                  refine we_tup (by decide) ?_
                  refine wa_cons rfl ?_
                  refine we_var 6 _ rfl (by first | exact Or.inl rfl | exact Or.inr (Or.inl rfl) | exact Or.inr (Or.inr rfl)) (by decide) (by decide) rfl ?_
                  refine wa_cons rfl ?_
                  refine we_non ?_
                  refine wa_nil ?_
                  refine ⟨(by first | trivial | exact fun p h => h), (by first | trivial | exact fun p h => h), ?_⟩
                  refine ⟨nb_of ⟨trivial, trivial, trivial⟩, Nat.le_of_ble_eq_true rfl, ?_⟩
                  refine ⟨_, Back.any (Back.nil), ?_⟩
                  exact fail (if_pos (.inl hb))
        · subst e
          have hn : 2 + ((xs.length : Int) - 2).toNat = xs.length := by omega
          rw [hn, List.drop_length] at hgo
          rw [← hgo] at hR
          refine ws_cons ?_
          refine w1_ret ?_
          refine we_if ?_
          refine wt_ww ?_
          refine ww_or ?_
          refine wt_cmp op_eq o2_eqS (nomark _) ?_
          refine we_var 4 _ rfl (by first | exact Or.inl rfl | exact Or.inr (Or.inl rfl) | exact Or.inr (Or.inr rfl)) (by decide) (by decide) rfl ?_
          refine we_str ?_
          refine ⟨(by first | trivial | exact fun p h => h), _, (.mk _ _), ?_⟩
          refine ⟨fun hb => ?_, fun hb => ?_⟩
          · refine ww_or1 ?_
            refine wt_cmp (op_eqD (by exact room_u64 I.r)) o2_eq (nomark _) ?_
            refine we_callB call_len oN_len rfl (M _ (by decide)) rfl (by decide) (by decide) rfl rfl ?_
            refine wa_cons rfl ?_
            refine we_var 0 _ rfl (by first | exact Or.inl rfl | exact Or.inr (Or.inl rfl) | exact Or.inr (Or.inr rfl)) (by decide) (by decide) rfl ?_
            refine wa_nil ?_
            refine ⟨(by first | trivial | exact fun p h => h), ?_⟩
            refine ⟨_, .str _ hz, ?_⟩
            refine we_int ?_
            refine ⟨(by first | trivial | exact fun p h => h), _, (SEq.int _ _), ?_⟩
            have hc : ph.isCom = false := by
              cases ph with
              | com => exact absurd rfl (of_decide_eq_false hb)
              | tie => rfl
              | fin p => rfl
            refine ⟨fun hb => ?_, fun hb => ?_⟩
            · have hb : (((S xs).length : Nat) : Int) = 2 := of_decide_eq_true hb
              rw [S_len] at hb
              have e : go m [] xs.length ts ph = .ok m ts := if_pos (.inr (by omega))
              rw [e] at hR
              refine we_tup (by decide) ?_
              refine wa_cons rfl ?_
              refine we_non ?_
              refine wa_cons rfl ?_
              refine we_tup (by decide) ?_
              refine wa_cons rfl ?_
              refine we_var 5 _ rfl (by first | exact Or.inl rfl | exact Or.inr (Or.inl rfl) | exact Or.inr (Or.inr rfl)) (by decide) (by decide) rfl ?_
              refine wa_cons rfl ?_
              refine we_callTy call_tuple_of oN_tup rfl (M _ (by decide)) rfl (by decide) (by decide) rfl rfl ?_
              refine wa_cons rfl ?_
              refine we_bor 2 _ _ rfl (by first | exact Or.inl rfl | exact Or.inr (Or.inl rfl) | exact Or.inr (Or.inr rfl)) (by decide) (by decide) rfl ?_
              refine wa_nil ?_
              refine ⟨(by first | trivial | exact fun p h => h), ?_⟩
              refine ⟨_, .lst _, ?_⟩
              refine wa_nil ?_
              refine ⟨(by first | trivial | exact fun p h => h), (by first | trivial | exact fun p h => h), ?_⟩
              refine ⟨nb_of ⟨trivial, trivial, trivial⟩, Nat.le_of_ble_eq_true rfl, ?_⟩
              refine wa_nil ?_
              refine ⟨(by first | trivial | exact fun p h => h), (by first | trivial | exact fun p h => h), ?_⟩
              refine ⟨nb_of ⟨trivial, trivial, trivial⟩, Nat.le_of_ble_eq_true rfl, ?_⟩
              refine ⟨_, Back.any (Back.nil), ?_⟩
              exact hR
            · have hb : (((S xs).length : Nat) : Int) ≠ 2 := of_decide_eq_false hb
              rw [S_len] at hb
              have e : go m [] xs.length ts ph = .err xs.length := if_neg (fun z => z.elim (fun z => by rw [hc] at z; cases z) (by omega))
              rw [e] at hR
              refine we_tup (by decide) ?_
              refine wa_cons rfl ?_
              refine we_callB call_len oN_len rfl (M _ (by decide)) rfl (by decide) (by decide) rfl rfl ?_
              refine wa_cons rfl ?_
              refine we_var 0 _ rfl (by first | exact Or.inl rfl | exact Or.inr (Or.inl rfl) | exact Or.inr (Or.inr rfl)) (by decide) (by decide) rfl ?_
              refine wa_nil ?_
              refine ⟨(by first | trivial | exact fun p h => h), ?_⟩
              refine ⟨_, .str _ hz, ?_⟩
              rw [S_len]
              refine wa_cons rfl ?_
              refine we_non ?_
              refine wa_nil ?_
              refine ⟨(by first | trivial | exact fun p h => h), (by first | trivial | exact fun p h => h), ?_⟩
              refine ⟨nb_of ⟨trivial, trivial, trivial⟩, Nat.le_of_ble_eq_true rfl, ?_⟩
              refine ⟨_, Back.any (Back.nil), ?_⟩
              exact hR
          · have hb := of_decide_eq_true hb
            have e : go m [] xs.length ts ph = .ok m ts := if_pos (.inl (by
              cases ph with
              | com => rfl
              | tie => exact absurd hb (by decide +kernel)
              | fin p => exact absurd hb (show ¬ ("end" : Str) = "comma" by decide +kernel)))
            rw [e] at hR
            refine ⟨fun _ => ?_, fun z => nomatch z⟩
            refine we_tup (by decide) ?_
            refine wa_cons rfl ?_
            refine we_non ?_
            refine wa_cons rfl ?_
            refine we_tup (by decide) ?_
            refine wa_cons rfl ?_
            refine we_var 5 _ rfl (by first | exact Or.inl rfl | exact Or.inr (Or.inl rfl) | exact Or.inr (Or.inr rfl)) (by decide) (by decide) rfl ?_
            refine wa_cons rfl ?_
            refine we_callTy call_tuple_of oN_tup rfl (M _ (by decide)) rfl (by decide) (by decide) rfl rfl ?_
            refine wa_cons rfl ?_
            refine we_bor 2 _ _ rfl (by first | exact Or.inl rfl | exact Or.inr (Or.inl rfl) | exact Or.inr (Or.inr rfl)) (by decide) (by decide) rfl ?_
            refine wa_nil ?_
            refine ⟨(by first | trivial | exact fun p h => h), ?_⟩
            refine ⟨_, .lst _, ?_⟩
            refine wa_nil ?_
            refine ⟨(by first | trivial | exact fun p h => h), (by first | trivial | exact fun p h => h), ?_⟩
            refine ⟨nb_of ⟨trivial, trivial, trivial⟩, Nat.le_of_ble_eq_true rfl, ?_⟩
            refine wa_nil ?_
            refine ⟨(by first | trivial | exact fun p h => h), (by first | trivial | exact fun p h => h), ?_⟩
            refine ⟨nb_of ⟨trivial, trivial, trivial⟩, Nat.le_of_ble_eq_true rfl, ?_⟩
            refine ⟨_, Back.any (Back.nil), ?_⟩
            exact hR
  · have e0 : xs = [] := S_inj ((of_decide_eq_true hb).trans (by decide +kernel))
    subst e0
    refine ⟨fun _ => ?_, fun z => nomatch z⟩
    refine ws_cons ?_
    refine w1_ret ?_
    refine we_tup (by decide) ?_
    refine wa_cons rfl ?_
    refine we_int ?_
    refine wa_cons rfl ?_
    refine we_non ?_
    refine wa_nil ?_
    refine ⟨(by first | trivial | exact fun p h => h), (by first | trivial | exact fun p h => h), ?_⟩
    refine ⟨nb_of ⟨trivial, trivial, trivial⟩, Nat.le_of_ble_eq_true rfl, ?_⟩
    refine ⟨_, Back.any (Back.nil), ?_⟩
    exact hR
end
end K

set_option maxHeartbeats 4000000
namespace K
open PySem PySem.Spec PyProof.Rows L2 Bs
/-! the ties that a sign leaves -/
def sel (i : Nat) (s : Tie) : Int := if i = 0 then s.1 else s.2
def fE (xs : List Nat) (k i : Nat) (left : List Tie) : List Tie := left.filter fun s => decide (xs[k + i]? = some (97 + (sel i s).toNat))
theorem cutS_at (xs : List Nat) (i : Nat) : cutS (S xs) (some (i : Int)) (some ((i : Int) + 1)) = S (xs[i]?.toList) := by
  cases h : xs[i]? with
  | some c => exact cutS_one h
  | none =>
    have hi : xs.length ≤ i := List.getElem?_eq_none_iff.mp h
    unfold cutS
    have e1 : HT.sIx (S xs).length 0 (some (i : Int)) = xs.length := by rw [HT.sIx_nat, S_len]; omega
    have e2 : HT.sIx (S xs).length (S xs).length (some ((i : Int) + 1)) = xs.length := by
      have := HT.sIx_nat (S xs).length (S xs).length (i + 1)
      rw [show ((i : Int) + 1) = ((i + 1 : Nat) : Int) by omega, this, S_len]
      omega
    rw [e1, e2]
    show (⟨(List.take (xs.length - xs.length) (List.drop xs.length xs.toArray.toList)).toArray⟩ : Str) = ⟨[].toArray⟩
    rw [Nat.sub_self, List.take_zero]
theorem opt_dec (o : Option Nat) (c : Nat) : decide (S [c] = S o.toList) = decide (o = some c) := by
  rw [decide_eq_decide]
  constructor
  · intro h
    have := S_inj h
    cases o with
    | none => cases this
    | some d =>
      have : c = d := by simpa using this
      rw [this]
  · intro h
    rw [h]
    rfl
theorem plc_eq {c : Nat} {x : Int} (h0 : 0 ≤ x) (h1 : x < 12) : some c = some (97 + x.toNat) ↔ plc c = x := by
  rw [Option.some.injEq]
  unfold plc
  split <;> omega
theorem ahead_mem {m : Int} {ts : List Tie} {f : Option Int} {t : Tie} : t ∈ ahead m ts f ↔ t ∈ allT m ∧ afterL ts t = true ∧ okF f t = true := by
  unfold ahead
  rw [List.mem_filter, Bool.and_eq_true]
theorem ahead_fit {m : Int} {ts : List Tie} {f : Option Int} {t : Tie} (h : t ∈ ahead m ts f) : 0 ≤ t.1 ∧ t.1 < t.2 ∧ t.2 < m := allT_mem (ahead_mem.mp h).1
theorem fE_ahead {m : Int} {ts : List Tie} {xs : List Nat} {k c : Nat} (h1 : m ≤ 12) (hc : xs[k]? = some c) : fE xs k 0 (ahead m ts none) = ahead m ts (some (plc c)) := by
  unfold fE ahead
  rw [List.filter_filter]
  refine List.filter_congr fun t ht => ?_
  have hf := allT_mem ht
  show (decide (xs[k + 0]? = some (97 + t.1.toNat)) && (afterL ts t && true)) = (afterL ts t && decide (plc c = t.1))
  rw [Nat.add_zero, hc, decide_eq_decide.mpr (plc_eq hf.1 (by omega)), Bool.and_true, Bool.and_comm]
theorem fE_none {xs : List Nat} {k i : Nat} {left : List Tie} (h : xs[k + i]? = none) : fE xs k i left = [] := by
  unfold fE
  rw [h]
  exact List.filter_eq_nil_iff.mpr fun a _ => by simp
theorem fE1_mem {m : Int} {ts : List Tie} {xs : List Nat} {k d : Nat} {p : Int} {t : Tie} (h1 : m ≤ 12) (hd : xs[k + 1]? = some d) (h : t ∈ fE xs k 1 (ahead m ts (some p))) : t = (p, plc d) ∧ t ∈ ahead m ts (some p) ∧ 0 ≤ plc d := by
  obtain ⟨hm, he⟩ := List.mem_filter.mp h
  have hf := ahead_fit hm
  have ho := (ahead_mem.mp hm).2.2
  have ho : decide (p = t.1) = true := ho
  have he : decide (xs[k + 1]? = some (97 + t.2.toNat)) = true := he
  rw [hd] at he
  have e2 := (plc_eq (c := d) (x := t.2) (by omega) (by omega)).mp (of_decide_eq_true he)
  exact ⟨Prod.ext (of_decide_eq_true ho).symm e2.symm, hm, by omega⟩
theorem mem_fE1 {m : Int} {ts : List Tie} {xs : List Nat} {k d : Nat} {p : Int} (h1 : m ≤ 12) (hd : xs[k + 1]? = some d) (h : (p, plc d) ∈ ahead m ts (some p)) : (p, plc d) ∈ fE xs k 1 (ahead m ts (some p)) := by
  have hf := ahead_fit h
  refine List.mem_filter.mpr ⟨h, ?_⟩
  show decide (xs[k + 1]? = some (97 + (plc d).toNat)) = true
  rw [hd]
  have hf2 : 0 ≤ plc d ∧ plc d < m := by have a := hf.1; have b := hf.2; omega
  exact decide_eq_true ((plc_eq hf2.1 (by omega)).mpr rfl)
theorem tlt_trans' {a b c : Tie} (h1 : tlt a b = true) (h2 : tlt b c = true) : tlt a c = true := (tlt_iff _ _).mpr (tlt_trans ((tlt_iff _ _).mp h1) ((tlt_iff _ _).mp h2))
theorem afterL_snoc (ts : List Tie) (t u : Tie) : afterL (ts ++ [t]) u = tlt t u := by
  unfold afterL
  rw [List.getLast?_append]
  rfl
theorem ahead_snoc {m : Int} {ts : List Tie} {t : Tie} (h : afterL ts t = true) : (ahead m ts none).filter (fun u => tlt t u) = ahead m (ts ++ [t]) none := by
  unfold ahead
  rw [List.filter_filter]
  refine List.filter_congr fun u _ => ?_
  rw [afterL_snoc]
  show (tlt t u && (afterL ts u && true)) = (tlt t u && true)
  cases hu : tlt t u with
  | false => rfl
  | true =>
    have : afterL ts u = true := by
      unfold afterL at h ⊢
      cases hl : ts.getLast? with
      | none => rfl
      | some l =>
        rw [hl] at h
        exact tlt_trans' h hu
    rw [this]
    rfl
theorem ahead_len {m : Int} {ts : List Tie} {f : Option Int} (h0 : 0 ≤ m) (h1 : m ≤ 12) : (ahead m ts f).length ≤ 1000 := Nat.le_trans (List.length_filter_le _ _) (allT_len h0 h1)
theorem ahead_nil (m : Int) : ahead m [] none = allT m := by
  unfold ahead
  exact List.filter_eq_self.mpr fun a _ => rfl
/-! one tie more, as the automaton reads it -/
theorem go_tie {m : Int} {ts : List Tie} {xs : List Nat} {k : Nat} (h1 : m ≤ 12) (hk : k < xs.length ∨ k ≠ 2) (hkl : k ≤ xs.length) (hf : fE xs k 0 (ahead m ts none) = []) : go m (xs.drop k) k ts .tie = .err k := by
  cases hc : xs[k]? with
  | none =>
    have : xs.length ≤ k := List.getElem?_eq_none_iff.mp hc
    rw [List.drop_of_length_le this]
    exact if_neg (fun z => z.elim (fun z => by cases z) (by omega))
  | some c =>
    rw [fE_ahead h1 hc] at hf
    rw [drop_at hc]
    exact if_pos (.inr hf)
theorem go_end {m : Int} {ts : List Tie} {xs : List Nat} {k : Nat} {c : Nat} (h1 : m ≤ 12) (hk : 2 ≤ k) (hc : xs[k]? = some c) (hf0 : fE xs k 0 (ahead m ts none) ≠ []) : 0 ≤ plc c ∧ go m (xs.drop k) k ts .tie = go m (xs.drop (k + 1)) (k + 1) ts (.fin (plc c)) ∧
    (fE xs k 1 (fE xs k 0 (ahead m ts none)) = [] → go m (xs.drop k) k ts .tie = .err (k + 1)) ∧
    ∀ t l, fE xs k 1 (fE xs k 0 (ahead m ts none)) = t :: l → k + 1 < xs.length ∧ afterL ts t = true ∧ t ∈ ahead m ts none ∧ go m (xs.drop k) k ts .tie = go m (xs.drop (k + 2)) (k + 2) (ts ++ [t]) .com := by
  rw [fE_ahead h1 hc] at hf0 ⊢
  have hp : 0 ≤ plc c := by
    obtain ⟨t, ht⟩ := List.exists_mem_of_ne_nil _ hf0
    have a := ahead_fit ht
    have b : decide (plc c = t.1) = true := (ahead_mem.mp ht).2.2
    have b := of_decide_eq_true b
    omega
  have e0 : go m (xs.drop k) k ts .tie = go m (xs.drop (k + 1)) (k + 1) ts (.fin (plc c)) := by
    rw [drop_at hc]
    exact if_neg (fun z => z.elim (by omega) hf0)
  refine ⟨hp, e0, fun hf => ?_, fun t l hf => ?_⟩
  · rw [e0]
    cases hd : xs[k + 1]? with
    | none =>
      have : xs.length ≤ k + 1 := List.getElem?_eq_none_iff.mp hd
      rw [List.drop_of_length_le this]
      exact if_neg (fun z => z.elim (fun z => by cases z) (by omega))
    | some d =>
      rw [drop_at hd]
      refine if_pos ?_
      by_cases hq : plc d < 0
      · exact .inl hq
      · refine .inr fun hm => ?_
        have := mem_fE1 h1 hd hm
        rw [hf] at this
        cases this
  · cases hd : xs[k + 1]? with
    | none =>
      rw [fE_none hd] at hf
      cases hf
    | some d =>
      have hm : t ∈ fE xs k 1 (ahead m ts (some (plc c))) := by rw [hf]; exact List.mem_cons_self
      obtain ⟨et, ha, hq⟩ := fE1_mem h1 hd hm
      have am := ahead_mem.mp ha
      refine ⟨(List.getElem?_eq_some_iff.mp hd).1, am.2.1, ahead_mem.mpr ⟨am.1, am.2.1, rfl⟩, ?_⟩
      rw [e0, drop_at hd, et]
      exact if_neg (fun z => z.elim (by omega) (fun z => z (by rw [← et]; exact ha)))
end K

set_option maxHeartbeats 4000000
namespace K
open PySem PySem.Spec PyProof.Rows L2 Bs
abbrev s_told_ties : Stmt := top 9
abbrev s_told_tie : Stmt := top 10
abbrev s_web_told : Stmt := top 7
theorem sc_told_tie : FnScope ["text", "at", "left", "fitting", "end", "letter", "tie"] ["text", "at", "left"] (defScope s_told_tie) := ⟨rfl, rfl, rfl, by decide +kernel, rfl, by decide +kernel, by decide +kernel⟩
theorem sc_told_ties : FnScope ["text", "start", "left", "ties", "at", "tie", "other"] ["text", "start", "left"] (defScope s_told_ties) := ⟨rfl, rfl, rfl, by decide +kernel, rfl, by decide +kernel, by decide +kernel⟩
theorem sc_web_told : FnScope ["text", "n"] ["text"] (defScope s_web_told) := ⟨rfl, rfl, rfl, by decide +kernel, rfl, by decide +kernel, by decide +kernel⟩
def fL (xs : List Nat) (k : Nat) (left : List Tie) : Nat → List Tie
  | 0 => left
  | i + 1 => fE xs k i (fL xs k left i)
theorem fL_sub {xs : List Nat} {k : Nat} {left : List Tie} : ∀ {i : Nat} {s : Tie}, s ∈ fL xs k left i → s ∈ left
  | 0, _, h => h
  | i + 1, _, h => fL_sub (List.mem_filter.mp h).1
theorem fL_len {xs : List Nat} {k : Nat} {left : List Tie} : ∀ i, (fL xs k left i).length ≤ left.length
  | 0 => Nat.le_refl _
  | i + 1 => Nat.le_trans (List.length_filter_le _ _) (fL_len i)
section
variable {P : Program} {w : World} {K : PySem.W.Frag} {mg : Str → Option Value} {base : Heap}
def eIx (k : Nat) : Xf := [("index", .int ((k : Nat) : Int))]
def spTold1 (C : Addr) : BSp := fun as R Y => ∃ xs k left, as = [.dat (.str (S xs)), .dat (.int ((k : Nat) : Int)), .dat (.list (tiesD left))] ∧ xs.length ≤ 90000 ∧ (∀ s ∈ left, 0 ≤ s.1 ∧ s.1 < s.2 ∧ s.2 < 12) ∧ left.length ≤ 1000 ∧
  (fE xs k 0 left = [] → Y (.ref C) (eIx k) [.any, .any, .any]) ∧ (fE xs k 0 left ≠ [] → fE xs k 1 (fE xs k 0 left) = [] → Y (.ref C) (eIx (k + 1)) [.any, .any, .any]) ∧ (∀ t l, fE xs k 1 (fE xs k 0 left) = t :: l → R (.d (tieD t)) [.any, .any, .any])
theorem ok_told_tie {C : Addr} (XF : ExF P K mg "InvalidText" C "index" "index") (M : NoSh mg) (hL : ∃ t, mg "LETTERS" = some (.str "abcdefghijkl" t)) (h : Has K mg "_told_tie" s_told_tie ["text", "at", "left"]) : Df P w K mg base 3 "_told_tie" ["text", "at", "left"] (spTold1 C) := by
  refine h.df (k := 2) sc_told_tie (fun as R Y ⟨_, _, _, e, _⟩ => by rw [e]; rfl) fun f cdv A outer s H E I as R Y ⟨xs, k, left, e, hx, hf, hl, hY0, hY1, hR⟩ => ?_
  subst e
  have nd := sc_told_tie.nd
  refine ws_cons ?_
  refine w1_set 3 nd rfl (by first | exact Or.inl rfl | exact Or.inr rfl) rfl (by first | exact Or.inl rfl | exact Or.inr rfl) ?_
  refine we_var 2 _ rfl (by first | exact Or.inl rfl | exact Or.inr (Or.inl rfl) | exact Or.inr (Or.inr rfl)) (by decide) (by decide) rfl ?_
  refine ws_cons ?_
  refine w1_forT (g := fun _ => gName 4) (passes_of rfl) rfl (pg_name nd rfl (by first | exact Or.inl rfl | exact Or.inr rfl)) (tg_name 4) (fun _ => rfl) ?_
  refine we_tup (by decide) ?_
  refine wa_cons rfl ?_
  refine we_int ?_
  refine wa_cons rfl ?_
  refine we_int ?_
  refine wa_nil ?_
  refine ⟨(by first | trivial | exact fun p h => h), (by first | trivial | exact fun p h => h), ?_⟩
  refine ⟨nb_of ⟨trivial, trivial, trivial⟩, Nat.le_of_ble_eq_true rfl, ?_⟩
  refine ⟨trivial, [.int 0, .int 1], rfl, fun i ρ => (∀ j, j < i → fL xs k left (j + 1) ≠ []) ∧ ∃ s4 s5 s6, ρ = [.dat (.str (S xs)), .dat (.int k), .dat (.list (tiesD left)), .dat (.list (tiesD (fL xs k left i))), s4, s5, s6], ⟨fun j hj => absurd hj (Nat.not_lt_zero _), _, _, _, rfl⟩, fun i d ρ hd ⟨hne, s4, s5, s6, e⟩ => ?_, fun ρ ⟨hne, s4, s5, s6, e⟩ => ?_⟩
  · subst e
    have hi2 : i < 2 := (List.getElem?_eq_some_iff.mp hd).1
    have hdi : d = .int (i : Int) := by
      match i, hi2, hd with
      | 0, _, hd => cases hd; rfl
      | 1, _, hd => cases hd; rfl
    subst hdi
    refine ⟨_, rfl, ?_⟩
    refine ws_cons ?_
    refine w1_set 5 nd rfl (by first | exact Or.inl rfl | exact Or.inr rfl) rfl (by first | exact Or.inl rfl | exact Or.inr rfl) ?_
    refine we_slice sl_str oS_str ?_
    refine we_var 0 _ rfl (by first | exact Or.inl rfl | exact Or.inr (Or.inl rfl) | exact Or.inr (Or.inr rfl)) (by decide) (by decide) rfl ?_
    refine we_op2 op_addA o2_add ?_
    refine we_var 1 _ rfl (by first | exact Or.inl rfl | exact Or.inr (Or.inl rfl) | exact Or.inr (Or.inr rfl)) (by decide) (by decide) rfl ?_
    refine we_var 4 _ rfl (by first | exact Or.inl rfl | exact Or.inr (Or.inl rfl) | exact Or.inr (Or.inr rfl)) (by decide) (by decide) rfl ?_
    refine ⟨(by first | trivial | exact fun p h => h), _, (.int _ _), ?_⟩
    refine ⟨_, rfl, ?_⟩
    refine we_op2 op_addA o2_add ?_
    refine we_op2 op_addA o2_add ?_
    refine we_var 1 _ rfl (by first | exact Or.inl rfl | exact Or.inr (Or.inl rfl) | exact Or.inr (Or.inr rfl)) (by decide) (by decide) rfl ?_
    refine we_var 4 _ rfl (by first | exact Or.inl rfl | exact Or.inr (Or.inl rfl) | exact Or.inr (Or.inr rfl)) (by decide) (by decide) rfl ?_
    refine ⟨(by first | trivial | exact fun p h => h), _, (.int _ _), ?_⟩
    refine we_int ?_
    refine ⟨(by first | trivial | exact fun p h => h), _, (.int _ _), ?_⟩
    refine ⟨_, rfl, ?_⟩
    refine ⟨(by first | trivial | exact fun p h => h), _, (.str _ _ _ (small (by rw [S_len]; omega))), ?_⟩
    have ec : cutS (S xs) (some ((k : Int) + (i : Int))) (some ((k : Int) + (i : Int) + 1)) = S (xs[k + i]?.toList) := by
      have := cutS_at xs (k + i)
      rw [show ((k + i : Nat) : Int) = (k : Int) + (i : Int) by omega] at this
      exact this
    rw [ec]
    refine ws_cons ?_
    refine w1_lc1 (own := [("tie",6)]) (g := (fun _ => gName 6)) 3 (tgi_name 6) (by decide) rfl nd rfl rfl rfl (pi_list pe_sE) (blk_cx (by decide +kernel)) (fun _ _ _ _ _ => pg_name nd rfl (by first | exact Or.inl rfl | exact Or.inr rfl) (by first | exact Or.inl rfl | exact Or.inr rfl)) (fun _ => rfl) ?_
    refine wi_list ?_
    refine we_var 3 _ rfl (by first | exact Or.inl rfl | exact Or.inr (Or.inl rfl) | exact Or.inr (Or.inr rfl)) (by decide) (by decide) rfl ?_
    refine ⟨trivial, _, rfl, ?_⟩
    refine lcI_filter (fun d => decide (xs[k + i]? = some (97 + (intOf ((itemsD d).getD i .none)).toNat))) (fun d => d) ?_ (fun d hd => ?_) ?_
    · have := fL_len (xs := xs) (k := k) (left := left) i
      unfold tiesD
      rw [List.length_map]
      omega
    · obtain ⟨u, hu, rfl⟩ := List.mem_map.mp (show d ∈ (fL xs k left i).map tieD from hd)
      have hfu := hf u (fL_sub hu)
      have hsu : 0 ≤ sel i u ∧ sel i u < 12 := by unfold sel; split <;> omega
      have hat : atI [PyData.int u.1, .int u.2] (i : Int) = some (.int (sel i u)) := by
        match i, hi2 with
        | 0, _ => rfl
        | 1, _ => rfl
      have hget : intOf ((itemsD (tieD u)).getD i .none) = sel i u := by
        match i, hi2 with
        | 0, _ => rfl
        | 1, _ => rfl
      refine ⟨_, rfl, rfl, fun s0 H0 C cl fp => ?_⟩
      refine wt_cmp op_eq o2_eqS (nomark _) ?_
      refine we_ix ix_seq o2_ix (fun _ _ => rfl) ?_
      refine we_globS hL rfl (by decide) ?_
      refine we_ix ix_seq o2_ix (fun _ _ => rfl) ?_
      refine we_var 6 _ rfl (by first | exact Or.inl rfl | exact Or.inr (Or.inl rfl) | exact Or.inr (Or.inr rfl)) (by decide) (by decide) rfl ?_
      refine we_var 4 _ rfl (by first | exact Or.inl rfl | exact Or.inr (Or.inl rfl) | exact Or.inr (Or.inr rfl)) (by decide) (by decide) rfl ?_
      refine ⟨(by first | trivial | exact fun p h => h), _, (.tup _ _ _ hat), ?_⟩
      refine ⟨(by first | trivial | exact fun p h => h), _, (let_ix hsu.1 hsu.2), ?_⟩
      refine we_var 5 _ rfl (by first | exact Or.inl rfl | exact Or.inr (Or.inl rfl) | exact Or.inr (Or.inr rfl)) (by decide) (by decide) rfl ?_
      refine ⟨(by first | trivial | exact fun p h => h), _, (.mk _ _), ?_⟩
      refine ⟨?_, rfl, fun _ s0 H0 C cl fp => ?_⟩
      · rw [opt_dec]
        show _ = decide (xs[k + i]? = some (97 + (intOf ((itemsD (tieD u)).getD i .none)).toNat))
        rw [hget]
      · refine we_var 6 _ rfl (by first | exact Or.inl rfl | exact Or.inr (Or.inl rfl) | exact Or.inr (Or.inr rfl)) (by decide) (by decide) rfl ?_
        exact ⟨rfl, rfl⟩
    · intro q hq
      have ef : ((tiesD (fL xs k left i)).filter fun d => decide (xs[k + i]? = some (97 + (intOf ((itemsD d).getD i .none)).toNat))).map (fun d => d) = tiesD (fL xs k left (i + 1)) := by
        rw [List.map_id']
        unfold tiesD
        rw [List.filter_map]
        show _ = ((fL xs k left i).filter fun s => decide (xs[k + i]? = some (97 + (sel i s).toNat))).map tieD
        congr 1
        refine List.filter_congr fun u hu => ?_
        show decide (xs[k + i]? = some (97 + (intOf ((itemsD (tieD u)).getD i .none)).toNat)) = _
        match i, hi2 with
        | 0, _ => rfl
        | 1, _ => rfl
      rw [ef]
      refine WS.freeze 3 q _ rfl ?_
      refine ws_cons ?_
      refine w1_if ?_
      refine wt_not ?_
      refine wt_tru (fun _ => rfl) ?_
      refine we_var 3 _ rfl (by first | exact Or.inl rfl | exact Or.inr (Or.inl rfl) | exact Or.inr (Or.inr rfl)) (by decide) (by decide) rfl ?_
      refine ⟨_, .lst _, ?_⟩
      refine ⟨fun hb => ?_, fun hb => ?_⟩
      · have hb := not_true' hb
        have he : fL xs k left (i + 1) = [] := by
          cases e : fL xs k left (i + 1) with
          | nil => rfl
          | cons a l =>
            rw [e] at hb
            cases hb
        refine ws_cons ?_
        refine w1_raiseF XF rfl (I.r.mono (by decide)) rfl (by decide) rfl ?_
        refine we_op2 op_addA o2_add ?_
        refine we_var 1 _ rfl (by first | exact Or.inl rfl | exact Or.inr (Or.inl rfl) | exact Or.inr (Or.inr rfl)) (by decide) (by decide) rfl ?_
        refine we_var 4 _ rfl (by first | exact Or.inl rfl | exact Or.inr (Or.inl rfl) | exact Or.inr (Or.inr rfl)) (by decide) (by decide) rfl ?_
        refine ⟨(by first | trivial | exact fun p h => h), _, (.int _ _), ?_⟩
        refine ⟨_, rfl, ?_⟩
        refine ⟨_, Back.any (Back.any (Back.any (Back.nil))), ?_⟩
        match i, hi2, he, hne with
        | 0, _, he, _ =>
          have := hY0 he
          exact this
        | 1, _, he, hne =>
          have := hY1 (hne 0 (by omega)) he
          exact this
      · have hb := not_false' hb
        have he : fL xs k left (i + 1) ≠ [] := fun z => by
          rw [z] at hb
          cases hb
        refine ws_nil ?_
        refine ws_nil ?_
        refine ⟨fun j hj => ?_, _, _, _, rfl⟩
        by_cases hji : j = i
        · rw [hji]; exact he
        · exact hne j (by omega)
  · subst e
    have h2 := hne 1 (by decide)
    obtain ⟨t, l, htl⟩ := List.exists_cons_of_ne_nil h2
    have htl : fL xs k left 2 = t :: l := htl
    have hat : atI (tiesD (fL xs k left 2)) 0 = some (tieD t) := by
      rw [htl]
      exact at0 _ _
    refine ws_cons ?_
    refine w1_ret ?_
    refine we_ix ix_seq o2_ix (fun _ _ => rfl) ?_
    refine we_var 3 _ rfl (by first | exact Or.inl rfl | exact Or.inr (Or.inl rfl) | exact Or.inr (Or.inr rfl)) (by decide) (by decide) rfl ?_
    refine we_int ?_
    refine ⟨(by first | trivial | exact fun p h => h), _, (.lst _ _ (tieD t) hat), ?_⟩
    refine ⟨_, Back.any (Back.any (Back.any (Back.nil))), ?_⟩
    exact hR t l htl
end
end K

set_option maxHeartbeats 4000000
namespace K
open PySem PySem.Spec PyProof.Rows L2 Bs
section
variable {P : Program} {w : World} {K : PySem.W.Frag} {mg : Str → Option Value} {base : Heap}
def phT (ts : List Tie) : Ph := if ts = [] then .tie else .com
def spTolds (C : Addr) : BSp := fun as R Y => ∃ xs m, as = [.dat (.str (S xs)), .dat (.int 2), .dat (.list (tiesD (allT m)))] ∧ 2 ≤ xs.length ∧ xs.length ≤ 90000 ∧ 1 ≤ m ∧ m ≤ 12 ∧
  (∀ ts, go m (xs.drop 2) 2 [] .tie = .ok m ts → R (.d (.tuple (tiesD ts))) [.any, .any, .any]) ∧ (∀ k, go m (xs.drop 2) 2 [] .tie = .err k → Y (.ref C) (eIx k) [.any, .any, .any])
theorem ok_told_ties {C : Addr} (XF : ExF P K mg "InvalidText" C "index" "index") (M : NoSh mg) (D1 : Df P w K mg base 3 "_told_tie" ["text", "at", "left"] (spTold1 C)) (h : Has K mg "_told_ties" s_told_ties ["text", "start", "left"]) : Df P w K mg base 4 "_told_ties" ["text", "start", "left"] (spTolds C) := by
  refine h.df (k := 3) sc_told_ties (fun as R Y ⟨_, _, e, _⟩ => by rw [e]; rfl) fun f cdv A outer s H E I as R Y ⟨xs, m, e, hx2, hx, h0, h1, hR, hY⟩ => ?_
  subst e
  have nd := sc_told_ties.nd
  have hz : (S xs).length ≤ sizeLine := small (by rw [S_len]; omega)
  refine ws_cons ?_
  refine w1_set 3 nd rfl (by first | exact Or.inl rfl | exact Or.inr rfl) rfl (by first | exact Or.inl rfl | exact Or.inr rfl) ?_
  refine we_lst ?_
  refine wa_nil ?_
  refine ⟨nb_of trivial, Nat.le_of_ble_eq_true rfl, ?_⟩
  intro q hq
  refine ws_cons ?_
  refine w1_set 4 nd rfl (by first | exact Or.inl rfl | exact Or.inr rfl) rfl (by first | exact Or.inl rfl | exact Or.inr rfl) ?_
  refine we_var 1 _ rfl (by first | exact Or.inl rfl | exact Or.inr (Or.inl rfl) | exact Or.inr (Or.inr rfl)) (by decide) (by decide) rfl ?_
  refine ws_cons ?_
  refine w1_while (passes_of rfl) (fun μ ρ => ∃ k ts s5 s6, ρ = [.dat (.str (S xs)), .dat (.int 2), .dat (.list (tiesD (ahead m ts none))), .own q (tiesD ts), .dat (.int ((k : Nat) : Int)), s5, s6] ∧ 2 ≤ k ∧ k ≤ xs.length ∧ (ts = [] → k = 2) ∧ μ = xs.length - k ∧ ts.length ≤ k ∧ go m (xs.drop k) k ts (phT ts) = go m (xs.drop 2) 2 [] .tie) (xs.length - 2)
    ⟨2, [], _, _, by rw [ahead_nil]; rfl, Nat.le_refl _, hx2, fun _ => rfl, rfl, Nat.zero_le _, rfl⟩ fun μ ρ ⟨k, ts, s5, s6, e, hk2, hkl, hts0, hμ, htl, hgo⟩ => ?_
  subst e hμ
  refine wt_cmp op_lt o2_C (nomark _) ?_
  refine we_var 4 _ rfl (by first | exact Or.inl rfl | exact Or.inr (Or.inl rfl) | exact Or.inr (Or.inr rfl)) (by decide) (by decide) rfl ?_
  refine we_callB call_len oN_len rfl (M _ (by decide)) rfl (by decide) (by decide) rfl rfl ?_
  refine wa_cons rfl ?_
  refine we_var 0 _ rfl (by first | exact Or.inl rfl | exact Or.inr (Or.inl rfl) | exact Or.inr (Or.inr rfl)) (by decide) (by decide) rfl ?_
  refine wa_nil ?_
  refine ⟨(by first | trivial | exact fun p h => h), ?_⟩
  refine ⟨_, .str _ hz, ?_⟩
  refine ⟨(by first | trivial | exact fun p h => h), _, (by constructor), ?_⟩
  refine ⟨fun hb => ?_, fun hb => ?_⟩
  · have hb : ((k : Nat) : Int) < (((S xs).length : Nat) : Int) := of_decide_eq_true hb
    rw [S_len] at hb
    have hkx : k < xs.length := by omega
    obtain ⟨c, hc⟩ : ∃ c, xs[k]? = some c := ⟨_, List.getElem?_eq_getElem hkx⟩
    refine ws_cut (fun ρ => ∃ k2, ρ = [.dat (.str (S xs)), .dat (.int 2), .dat (.list (tiesD (ahead m ts none))), .own q (tiesD ts), .dat (.int ((k2 : Nat) : Int)), s5, s6] ∧ k ≤ k2 ∧ k2 ≤ k + 1 ∧ k2 ≤ xs.length ∧ (k2 < xs.length ∨ k2 ≠ 2) ∧ go m (xs.drop k2) k2 ts .tie = go m (xs.drop 2) 2 [] .tie) ?_ fun ρ ⟨k2, e, hkk, hkk1, hk2l, hk22, hgo2⟩ => ?_
    · refine w1_if ?_
      refine wt_tru (fun _ => rfl) ?_
      refine we_bor 3 _ _ rfl (by first | exact Or.inl rfl | exact Or.inr (Or.inl rfl) | exact Or.inr (Or.inr rfl)) (by decide) (by decide) rfl ?_
      refine ⟨_, .lst _, ?_⟩
      refine ⟨fun hb => ?_, fun hb => ?_⟩
      · have hne : ts ≠ [] := fun z => by
          rw [z] at hb
          cases hb
        have hph : phT ts = .com := if_neg hne
        rw [hph, drop_at hc] at hgo
        refine ws_cons ?_
        refine w1_if ?_
        refine wt_ww ?_
        refine ww_or ?_
        refine wt_cmp op_ne o2_neS (nomark _) ?_
        refine we_ix ix_seq o2_ix (fun _ _ => rfl) ?_
        refine we_var 0 _ rfl (by first | exact Or.inl rfl | exact Or.inr (Or.inl rfl) | exact Or.inr (Or.inr rfl)) (by decide) (by decide) rfl ?_
        refine we_var 4 _ rfl (by first | exact Or.inl rfl | exact Or.inr (Or.inl rfl) | exact Or.inr (Or.inr rfl)) (by decide) (by decide) rfl ?_
        refine ⟨(by first | trivial | exact fun p h => h), _, (.str _ _ c hz (cps_at hc rfl)), ?_⟩
        refine we_str ?_
        refine ⟨(by first | trivial | exact fun p h => h), _, (.mk _ _), ?_⟩
        refine ⟨fun hb => ?_, fun hb => ?_⟩
        · have hb := of_decide_eq_true (not_false' hb)
          rw [S_one, S_com] at hb
          have h44 : c = 44 := by simpa using S_inj hb
          refine ww_or1 ?_
          refine wt_not ?_
          refine wt_tru (fun _ => rfl) ?_
          refine we_var 2 _ rfl (by first | exact Or.inl rfl | exact Or.inr (Or.inl rfl) | exact Or.inr (Or.inr rfl)) (by decide) (by decide) rfl ?_
          refine ⟨_, .lst _, ?_⟩
          refine ⟨fun hb => ?_, fun hb => ?_⟩
          · have hb := not_true' hb
            have he : ahead m ts none = [] := by
              cases e : ahead m ts none with
              | nil => rfl
              | cons a l =>
                rw [e] at hb
                cases hb
            refine ws_cons ?_
            refine w1_raiseF XF rfl (I.r.mono (by decide)) rfl (by decide) rfl ?_
            refine we_var 4 _ rfl (by first | exact Or.inl rfl | exact Or.inr (Or.inl rfl) | exact Or.inr (Or.inr rfl)) (by decide) (by decide) rfl ?_
            refine ⟨_, rfl, ?_⟩
            refine ⟨_, Back.any (Back.any (Back.any (Back.nil))), ?_⟩
            exact hY k (hgo.symm.trans (if_pos (.inr he)))
          · have hb := not_false' hb
            have he : ahead m ts none ≠ [] := fun z => by
              rw [z] at hb
              cases hb
            refine ws_nil ?_
            refine ws_cons ?_
            refine w1_aug 4 _ nd rfl (by first | exact Or.inl rfl | exact Or.inr rfl) ip_add (by first | exact Or.inl rfl | exact Or.inr rfl) rfl ?_
            refine we_int ?_
            refine ⟨1, rfl, ?_⟩
            refine ws_nil ?_
            refine ⟨k + 1, ?_, by omega, by omega, by omega, .inr (by omega), ?_⟩
            · rw [show (((k + 1 : Nat)) : Int) = ((k : Nat) : Int) + 1 by omega]
              rfl
            · rw [← hgo]
              exact (if_neg (fun z => z.elim (fun z => z h44) he)).symm
        · have hb := of_decide_eq_false (not_true' hb)
          refine ⟨fun _ => ?_, fun z => nomatch z⟩
          refine ws_cons ?_
          refine w1_raiseF XF rfl (I.r.mono (by decide)) rfl (by decide) rfl ?_
          refine we_var 4 _ rfl (by first | exact Or.inl rfl | exact Or.inr (Or.inl rfl) | exact Or.inr (Or.inr rfl)) (by decide) (by decide) rfl ?_
          refine ⟨_, rfl, ?_⟩
          refine ⟨_, Back.any (Back.any (Back.any (Back.nil))), ?_⟩
          exact hY k (hgo.symm.trans (if_pos (.inl fun z => hb (by rw [z]; exact S_com.symm))))
      · have he : ts = [] := by
          cases ts with
          | nil => rfl
          | cons a l => cases hb
        refine ws_nil ?_
        refine ⟨k, rfl, Nat.le_refl _, by omega, hkl, .inl hkx, ?_⟩
        rw [← hgo, he]
        rfl
    · subst e
      have hk22' : 2 ≤ k2 := by omega
      refine ws_cons ?_
      refine w1_set 5 nd rfl (by first | exact Or.inl rfl | exact Or.inr rfl) rfl (by first | exact Or.inl rfl | exact Or.inr rfl) ?_
      refine we_call (Df.cal D1 (InD.mono I (by omega))) .nil (drs := []) (fun _ _ => DpAll.nil) rfl (by decide) rfl rfl ?_
      refine wa_cons rfl ?_
      refine we_var 0 _ rfl (by first | exact Or.inl rfl | exact Or.inr (Or.inl rfl) | exact Or.inr (Or.inr rfl)) (by decide) (by decide) rfl ?_
      refine wa_cons rfl ?_
      refine we_var 4 _ rfl (by first | exact Or.inl rfl | exact Or.inr (Or.inl rfl) | exact Or.inr (Or.inr rfl)) (by decide) (by decide) rfl ?_
      refine wa_cons rfl ?_
      refine we_var 2 _ rfl (by first | exact Or.inl rfl | exact Or.inr (Or.inl rfl) | exact Or.inr (Or.inr rfl)) (by decide) (by decide) rfl ?_
      refine wa_nil ?_
      refine ⟨(by first | trivial | exact fun p h => h), (by first | trivial | exact fun p h => h), (by first | trivial | exact fun p h => h), ?_⟩
      refine ⟨nb_of ⟨trivial, trivial, trivial, trivial⟩, ?_⟩
      refine ⟨xs, k2, ahead m ts none, rfl, hx, fun s hs => by have := ahead_fit hs; omega, ahead_len (by omega) h1, fun hf => ?_, fun hf0 hf1 => ?_, fun t l hf => ?_⟩
      · refine ⟨_, Back.any (Back.any (Back.any (Back.nil))), ?_⟩
        exact hY k2 (hgo2.symm.trans (go_tie h1 hk22 hk2l hf))
      · refine ⟨_, Back.any (Back.any (Back.any (Back.nil))), ?_⟩
        cases hc2 : xs[k2]? with
        | none => exact absurd (fE_none (i := 0) hc2) hf0
        | some c2 => exact hY (k2 + 1) (hgo2.symm.trans ((go_end h1 hk22' hc2 hf0).2.2.1 hf1))
      · have hf0 : fE xs k2 0 (ahead m ts none) ≠ [] := fun z => by
          rw [z] at hf
          cases hf
        obtain ⟨c2, hc2⟩ : ∃ c2, xs[k2]? = some c2 := by
          cases hc2 : xs[k2]? with
          | none => exact absurd (fE_none (i := 0) hc2) hf0
          | some c2 => exact ⟨c2, rfl⟩
        obtain ⟨hk3, haf, hin, hgo3⟩ := (go_end h1 hk22' hc2 hf0).2.2.2 t l hf
        refine ws_cons ?_
        refine w1_append 3 (hap := rfl) rfl (by first | exact Or.inl rfl | exact Or.inr (Or.inl rfl) | exact Or.inr (Or.inr rfl)) (by decide) (by decide) rfl rfl rfl rfl rfl _ _ rfl ?_
        refine wa_cons rfl ?_
        refine we_var 5 _ rfl (by first | exact Or.inl rfl | exact Or.inr (Or.inl rfl) | exact Or.inr (Or.inr rfl)) (by decide) (by decide) rfl ?_
        refine wa_nil ?_
        refine ⟨(by first | trivial | exact fun p h => h), ?_⟩
        refine ⟨_, _, rfl, trivial, rfl, by unfold tiesD; rw [List.length_map]; omega, ?_⟩
        refine ws_cons ?_
        refine w1_lc1 (own := [("other",6)]) (g := (fun _ => gName 6)) 2 (tgi_name 6) (by decide) rfl nd rfl rfl rfl (pi_list pe_sE) (blk_cx (by decide +kernel)) (fun _ _ _ _ _ => pg_name nd rfl (by first | exact Or.inl rfl | exact Or.inr rfl) (by first | exact Or.inl rfl | exact Or.inr rfl)) (fun _ => rfl) ?_
        refine wi_list ?_
        refine we_var 2 _ rfl (by first | exact Or.inl rfl | exact Or.inr (Or.inl rfl) | exact Or.inr (Or.inr rfl)) (by decide) (by decide) rfl ?_
        refine ⟨trivial, _, rfl, ?_⟩
        refine lcI_filter (fun d => ltT (tieD t) d) (fun d => d) ?_ (fun d hd => ?_) ?_
        · have := ahead_len (m := m) (ts := ts) (f := none) (by omega) h1
          unfold tiesD
          rw [List.length_map]
          omega
        · obtain ⟨u, hu, rfl⟩ := List.mem_map.mp (show d ∈ (ahead m ts none).map tieD from hd)
          refine ⟨_, rfl, rfl, fun s0 H0 C cl fp => ?_⟩
          refine wt_cmp (op_gtT (by exact room_u0 I.r)) o2_gtT (nomark _) ?_
          refine we_var 6 _ rfl (by first | exact Or.inl rfl | exact Or.inr (Or.inl rfl) | exact Or.inr (Or.inr rfl)) (by decide) (by decide) rfl ?_
          refine we_var 5 _ rfl (by first | exact Or.inl rfl | exact Or.inr (Or.inl rfl) | exact Or.inr (Or.inr rfl)) (by decide) (by decide) rfl ?_
          refine ⟨(by first | trivial | exact fun p h => h), _, (.mk [u.1, u.2] [t.1, t.2]), ?_⟩
          refine ⟨rfl, rfl, fun _ s0 H0 C cl fp => ?_⟩
          refine we_var 6 _ rfl (by first | exact Or.inl rfl | exact Or.inr (Or.inl rfl) | exact Or.inr (Or.inr rfl)) (by decide) (by decide) rfl ?_
          exact ⟨rfl, rfl⟩
        · intro q2 hq2
          have ef : ((tiesD (ahead m ts none)).filter fun d => ltT (tieD t) d).map (fun d => d) = tiesD (ahead m (ts ++ [t]) none) := by
            rw [List.map_id', ← ahead_snoc haf]
            unfold tiesD
            rw [List.filter_map]
            congr 1
            exact List.filter_congr fun u _ => gtT_tie t u
          rw [ef]
          refine WS.freeze 2 q2 _ rfl ?_
          refine ws_cons ?_
          refine w1_aug 4 _ nd rfl (by first | exact Or.inl rfl | exact Or.inr rfl) ip_add (by first | exact Or.inl rfl | exact Or.inr rfl) rfl ?_
          refine we_int ?_
          refine ⟨2, rfl, ?_⟩
          refine ws_nil ?_
          have hph : phT (ts ++ [t]) = .com := if_neg (by simp)
          refine ⟨xs.length - (k2 + 2), by omega, k2 + 2, ts ++ [t], .dat (tieD t), .any, ?_, by omega, by omega, fun z => by simp at z, rfl, by rw [List.length_append]; show ts.length + 1 ≤ _; omega, ?_⟩
          · have e1 : ((k2 : Nat) : Int) + 2 = ((k2 + 2 : Nat) : Int) := by omega
            have e2 : tiesD ts ++ [tieD t] = tiesD (ts ++ [t]) := by
              unfold tiesD
              rw [List.map_append]
              rfl
            rw [← e1, ← e2]
            rfl
          · rw [hph, ← hgo3, hgo2]
  · have hb : ¬ ((k : Nat) : Int) < (((S xs).length : Nat) : Int) := of_decide_eq_false hb
    rw [S_len] at hb
    have hke : k = xs.length := by omega
    subst hke
    rw [List.drop_length] at hgo
    have e : go m [] xs.length ts (phT ts) = .ok m ts := by
      by_cases ht : ts = []
      · exact if_pos (.inr (hts0 ht))
      · exact if_pos (.inl (by unfold phT; rw [if_neg ht]; rfl))
    refine ws_cons ?_
    refine w1_ret ?_
    refine we_callTy call_tuple_of oN_tup rfl (M _ (by decide)) rfl (by decide) (by decide) rfl rfl ?_
    refine wa_cons rfl ?_
    refine we_bor 3 _ _ rfl (by first | exact Or.inl rfl | exact Or.inr (Or.inl rfl) | exact Or.inr (Or.inr rfl)) (by decide) (by decide) rfl ?_
    refine wa_nil ?_
    refine ⟨(by first | trivial | exact fun p h => h), ?_⟩
    refine ⟨_, .lst _, ?_⟩
    refine ⟨_, Back.any (Back.any (Back.any (Back.nil))), ?_⟩
    exact hR ts (hgo.symm.trans e)
def spTold (C : Addr) : BSp := fun as R Y => ∃ d, as = [.dat d] ∧ (isStr d = false → Y (.ref C) (eIx 0) [.any]) ∧ ∀ xs, d = .str (S xs) → xs.length ≤ 90000 ∧ (∀ m ts, readM xs = .ok m ts → R (.d (webD m ts)) [.any]) ∧ (∀ k, readM xs = .err k → Y (.ref C) (eIx k) [.any])
theorem go_m {m m' : Int} {ts' : List Tie} : ∀ {xs : List Nat} {k : Nat} {ts : List Tie} {ph : Ph}, go m xs k ts ph = .ok m' ts' → m' = m
  | [], k, ts, ph, h => by
    have h : (if ph.isCom = true ∨ k = 2 then Res.ok m ts else .err k) = .ok m' ts' := h
    split at h
    · cases h; rfl
    · cases h
  | c :: cs, k, ts, .com, h => by
    have h : (if c ≠ 44 ∨ ahead m ts none = [] then Res.err k else go m cs (k + 1) ts .tie) = .ok m' ts' := h
    split at h
    · cases h
    · exact go_m h
  | c :: cs, k, ts, .tie, h => by
    have h : (if plc c < 0 ∨ ahead m ts (some (plc c)) = [] then Res.err k else go m cs (k + 1) ts (.fin (plc c))) = .ok m' ts' := h
    split at h
    · cases h
    · exact go_m h
  | c :: cs, k, ts, .fin p, h => by
    have h : (if plc c < 0 ∨ (p, plc c) ∉ ahead m ts (some p) then Res.err k else go m cs (k + 1) (ts ++ [(p, plc c)]) .com) = .ok m' ts' := h
    split at h
    · cases h
    · exact go_m h
theorem ok_web_told {C : Addr} (XF : ExF P K mg "InvalidText" C "index" "index") (hL : ∃ t, mg "LETTERS" = some (.str "abcdefghijkl" t)) (D1 : Df P w K mg base 1 "is_text" ["value"] (sp1 fun d => .bool (isStr d))) (D2 : Df P w K mg base 4 "_told_ties" ["text", "start", "left"] (spTolds C)) (D3 : Df P w K mg base 1 "_possible_ties" ["n"] spPoss)
    (h : Has K mg "web_told" s_web_told ["text"]) : Df P w K mg base 5 "web_told" ["text"] (spTold C) := by
  refine h.df (k := 4) sc_web_told (fun as R Y ⟨_, e, _⟩ => by rw [e]; rfl) fun f cdv A outer s H E I as R Y ⟨d, e, hN, hS⟩ => ?_
  subst e
  have nd := sc_web_told.nd
  refine ws_cons ?_
  refine w1_if ?_
  refine wt_ww ?_
  refine ww_or ?_
  refine wt_not ?_
  refine wt_tru (fun _ => rfl) ?_
  refine we_call (Df.cal D1 (InD.mono I (by omega))) .nil (drs := []) (fun _ _ => DpAll.nil) rfl (by decide) rfl rfl ?_
  refine wa_cons rfl ?_
  refine we_var 0 _ rfl (by first | exact Or.inl rfl | exact Or.inr (Or.inl rfl) | exact Or.inr (Or.inr rfl)) (by decide) (by decide) rfl ?_
  refine wa_nil ?_
  refine ⟨(by first | trivial | exact fun p h => h), ?_⟩
  refine ⟨nb_of ⟨trivial, trivial⟩, ?_⟩
  refine ⟨_, rfl, ?_⟩
  refine ⟨_, .bl _, ?_⟩
  refine ⟨fun hb => ?_, fun hb => ?_⟩
  · obtain ⟨z, rfl⟩ := isStr_true (not_false' hb)
    obtain ⟨xs, rfl⟩ : ∃ xs, z = S xs := ⟨z.cps.toList, by cases z; rfl⟩
    obtain ⟨hx, hR, hY⟩ := hS xs rfl
    have hz : (S xs).length ≤ sizeLine := small (by rw [S_len]; omega)
    refine ww_or ?_
    refine wt_cmp op_eq o2_eqS (nomark _) ?_
    refine we_var 0 _ rfl (by first | exact Or.inl rfl | exact Or.inr (Or.inl rfl) | exact Or.inr (Or.inr rfl)) (by decide) (by decide) rfl ?_
    refine we_str ?_
    refine ⟨(by first | trivial | exact fun p h => h), _, (.mk _ _), ?_⟩
    refine ⟨fun hb => ?_, fun hb => ?_⟩
    · have hne : xs ≠ [] := fun z => of_decide_eq_false hb (by rw [z]; decide +kernel)
      obtain ⟨c, cs, rfl⟩ := List.exists_cons_of_ne_nil hne
      refine ww_or1 ?_
      refine wt_cmp op_notInSA o2_inS rfl ?_
      refine we_ix ix_seq o2_ix (fun _ _ => rfl) ?_
      refine we_var 0 _ rfl (by first | exact Or.inl rfl | exact Or.inr (Or.inl rfl) | exact Or.inr (Or.inr rfl)) (by decide) (by decide) rfl ?_
      refine we_int ?_
      refine ⟨(by first | trivial | exact fun p h => h), _, (.str _ _ _ hz (atn0 c cs)), ?_⟩
      refine we_globS hL rfl (by decide) ?_
      refine ⟨(by first | trivial | exact fun p h => h), _, (.mk _ _), ?_⟩
      refine ⟨fun hb => ?_, fun hb => ?_⟩
      · have hb : c ∉ ("abcdefghijkl" : Str).cps.toList := of_decide_eq_false (not_true' hb)
        have hp : plc c < 0 := by
          rcases Int.lt_or_le (plc c) 0 with h | h
          · exact h
          · exact absurd (plc_mem.mpr h) hb
        refine ws_cons ?_
        refine w1_raiseF XF rfl (I.r.mono (by decide)) rfl (by decide) rfl ?_
        refine we_int ?_
        refine ⟨_, rfl, ?_⟩
        refine ⟨_, Back.any (Back.nil), ?_⟩
        exact hY 0 (rd0 hp)
      · have hb : c ∈ ("abcdefghijkl" : Str).cps.toList := of_decide_eq_true (not_false' hb)
        have hp : 0 ≤ plc c := plc_mem.mp hb
        obtain ⟨j, hj, rfl, ej⟩ := plc_of hp
        refine ws_nil ?_
        refine ws_cons ?_
        refine w1_if ?_
        refine wt_cmp op_ne o2_neS (nomark _) ?_
        refine we_slice sl_str oS_str ?_
        refine we_var 0 _ rfl (by first | exact Or.inl rfl | exact Or.inr (Or.inl rfl) | exact Or.inr (Or.inr rfl)) (by decide) (by decide) rfl ?_
        refine we_int ?_
        refine ⟨1, rfl, ?_⟩
        refine we_int ?_
        refine ⟨2, rfl, ?_⟩
        refine ⟨(by first | trivial | exact fun p h => h), _, (.str _ _ _ hz), ?_⟩
        refine we_str ?_
        refine ⟨(by first | trivial | exact fun p h => h), _, (.mk _ _), ?_⟩
        refine ⟨fun hb => ?_, fun hb => ?_⟩
        · have hb := of_decide_eq_false (not_true' hb)
          have e : readM ((97 + j) :: cs) = .err 1 := by
            cases cs with
            | nil => exact rd1 hp
            | cons d ds => exact rd2 hp fun z => hb (by rw [z, cut12]; exact S_col.symm)
          refine ws_cons ?_
          refine w1_raiseF XF rfl (I.r.mono (by decide)) rfl (by decide) rfl ?_
          refine we_int ?_
          refine ⟨_, rfl, ?_⟩
          refine ⟨_, Back.any (Back.nil), ?_⟩
          exact hY 1 e
        · have hb := of_decide_eq_true (not_false' hb)
          obtain ⟨ds, rfl⟩ : ∃ ds, cs = 58 :: ds := by
            cases cs with
            | nil => rw [cut12n, S_col] at hb; exact absurd (S_inj hb) (fun z => by cases z)
            | cons d ds =>
              rw [cut12, S_col] at hb
              have := S_inj hb
              exact ⟨ds, by simpa using this⟩
          have eR : readM ((97 + j) :: 58 :: ds) = go ((j : Int) + 1) ds 2 [] .tie := by rw [rd3 hp, ej]
          refine ws_nil ?_
          refine ws_cons ?_
          refine w1_set 1 nd rfl (by first | exact Or.inl rfl | exact Or.inr rfl) rfl (by first | exact Or.inl rfl | exact Or.inr rfl) ?_
          refine we_op2 op_addA o2_add ?_
          refine we_strM PySem.F.slot_str_index PySem.F.type_str_index mt_sindex oM_index rfl rfl rfl rfl rfl ?_
          refine we_globS hL rfl (by decide) ?_
          refine ⟨⟨_, rfl⟩, ?_⟩
          refine wa_cons rfl ?_
          refine we_ix ix_seq o2_ix (fun _ _ => rfl) ?_
          refine we_var 0 _ rfl (by first | exact Or.inl rfl | exact Or.inr (Or.inl rfl) | exact Or.inr (Or.inr rfl)) (by decide) (by decide) rfl ?_
          refine we_int ?_
          refine ⟨(by first | trivial | exact fun p h => h), _, (.str _ _ _ hz (atn0 _ _)), ?_⟩
          refine wa_nil ?_
          refine ⟨(by first | trivial | exact fun p h => h), ?_⟩
          refine ⟨_, .mk _ _ j [] (occ_let hj), ?_⟩
          refine we_int ?_
          refine ⟨(by first | trivial | exact fun p h => h), _, (.int _ _), ?_⟩
          obtain ⟨m, hm⟩ : ∃ m : Int, m = (j : Int) + 1 := ⟨_, rfl⟩
          rw [← hm] at eR ⊢
          have h0 : 1 ≤ m := by omega
          have h1 : m ≤ 12 := by omega
          refine ws_cons ?_
          refine w1_ret ?_
          refine we_tup (by decide) ?_
          refine wa_cons rfl ?_
          refine we_var 1 _ rfl (by first | exact Or.inl rfl | exact Or.inr (Or.inl rfl) | exact Or.inr (Or.inr rfl)) (by decide) (by decide) rfl ?_
          refine wa_cons rfl ?_
          refine we_call (Df.cal D2 (InD.mono I (by omega))) .nil (drs := []) (fun _ _ => DpAll.nil) rfl (by decide) rfl rfl ?_
          refine wa_cons rfl ?_
          refine we_var 0 _ rfl (by first | exact Or.inl rfl | exact Or.inr (Or.inl rfl) | exact Or.inr (Or.inr rfl)) (by decide) (by decide) rfl ?_
          refine wa_cons rfl ?_
          refine we_int ?_
          refine wa_cons rfl ?_
          refine we_call (Df.cal D3 (InD.mono I (by omega))) .nil (drs := []) (fun _ _ => DpAll.nil) rfl (by decide) rfl rfl ?_
          refine wa_cons rfl ?_
          refine we_var 1 _ rfl (by first | exact Or.inl rfl | exact Or.inr (Or.inl rfl) | exact Or.inr (Or.inr rfl)) (by decide) (by decide) rfl ?_
          refine wa_nil ?_
          refine ⟨(by first | trivial | exact fun p h => h), ?_⟩
          refine ⟨nb_of ⟨trivial, trivial⟩, ?_⟩
          refine ⟨m, rfl, by omega, h1, ?_⟩
          refine wa_nil ?_
          refine ⟨(by first | trivial | exact fun p h => h), (by first | trivial | exact fun p h => h), (by first | trivial | exact fun p h => h), ?_⟩
          refine ⟨nb_of ⟨trivial, trivial, trivial, trivial⟩, ?_⟩
          refine ⟨(97 + j) :: 58 :: ds, m, rfl, by simp, hx, h0, h1, fun ts hts => ?_, fun k hk => ?_⟩
          · refine wa_nil ?_
            refine ⟨(by first | trivial | exact fun p h => h), (by first | trivial | exact fun p h => h), ?_⟩
            refine ⟨nb_of ⟨trivial, trivial, trivial⟩, Nat.le_of_ble_eq_true rfl, ?_⟩
            refine ⟨_, Back.any (Back.nil), ?_⟩
            exact hR m ts (eR.trans hts)
          · refine ⟨_, Back.any (Back.nil), ?_⟩
            exact hY k (eR.trans hk)
    · have e0 : xs = [] := S_inj ((of_decide_eq_true hb).trans (by decide +kernel))
      subst e0
      refine ⟨fun _ => ?_, fun z => nomatch z⟩
      refine ws_cons ?_
      refine w1_raiseF XF rfl (I.r.mono (by decide)) rfl (by decide) rfl ?_
      refine we_int ?_
      refine ⟨_, rfl, ?_⟩
      refine ⟨_, Back.any (Back.nil), ?_⟩
      exact hY 0 rfl
  · refine ⟨fun _ => ?_, fun z => nomatch z⟩
    refine ws_cons ?_
    refine w1_raiseF XF rfl (I.r.mono (by decide)) rfl (by decide) rfl ?_
    refine we_int ?_
    refine ⟨_, rfl, ?_⟩
    refine ⟨_, Back.any (Back.nil), ?_⟩
    exact hN (not_true' hb)
end
end K

set_option maxHeartbeats 4000000
namespace K
open PySem PySem.Spec PyProof.Rows L2 Bs
abbrev s_law_bent : Stmt := top 19
abbrev s_law_told : Stmt := top 20
theorem sc_law_written : FnScope ["_law_web_here", "_law_letters", "_law_x", "_law_y"] ["_law_web_here"] (defScope s_law_written) := ⟨rfl, rfl, rfl, by decide +kernel, rfl, by decide +kernel, by decide +kernel⟩
theorem sc_law_bent : FnScope ["_law_cup_here", "_law_text", "_law_turn", "_law_at", "_law_sign", "_law_way"] ["_law_cup_here", "_law_text"] (defScope s_law_bent) := ⟨rfl, rfl, rfl, by decide +kernel, rfl, by decide +kernel, by decide +kernel⟩
theorem sc_law_told : FnScope ["_law_value", "_law_found", "e"] ["_law_value"] (defScope s_law_told) := ⟨rfl, rfl, rfl, by decide +kernel, rfl, by decide +kernel, by decide +kernel⟩
section
variable {P : Program} {w : World} {K : PySem.W.Frag} {mg : Str → Option Value} {base : Heap}
def spWr : BSp := fun as R _ => ∃ m ts, as = [.dat (webD m ts)] ∧ 1 ≤ m ∧ m ≤ 12 ∧ IsW m ts ∧ R (.d (.str (S (webL m ts)))) [.any]
theorem ok_law_written (M : NoSh mg) (h : Has K mg "_law_written" s_law_written ["_law_web_here"]) : Df P w K mg base 1 "_law_written" ["_law_web_here"] spWr := by
  refine h.df (k := 0) sc_law_written (fun as R Y ⟨m, ts, e, _⟩ => by rw [e]; rfl) fun f cdv A outer s H E I as R Y ⟨m, ts, e, h0, h1, hw, hR⟩ => ?_
  subst e
  have nd := sc_law_written.nd
  have hn := hw.len h1
  refine ws_cons ?_
  refine w1_set 1 nd rfl (by first | exact Or.inl rfl | exact Or.inr rfl) rfl (by first | exact Or.inl rfl | exact Or.inr rfl) ?_
  refine we_str ?_
  refine ws_cons ?_
  refine w1_ret ?_
  refine we_op2 op_addA o2_add ?_
  refine we_op2 op_addA o2_add ?_
  refine we_ix ix_seq o2_ix (fun _ _ => rfl) ?_
  refine we_var 1 _ rfl (by first | exact Or.inl rfl | exact Or.inr (Or.inl rfl) | exact Or.inr (Or.inr rfl)) (by decide) (by decide) rfl ?_
  refine we_op2 op_sub o2_I0 ?_
  refine we_ix ix_seq o2_ix (fun _ _ => rfl) ?_
  refine we_var 0 _ rfl (by first | exact Or.inl rfl | exact Or.inr (Or.inl rfl) | exact Or.inr (Or.inr rfl)) (by decide) (by decide) rfl ?_
  refine we_int ?_
  refine ⟨(by first | trivial | exact fun p h => h), _, (.tup _ _ (.int m) rfl), ?_⟩
  refine we_int ?_
  refine ⟨(by first | trivial | exact fun p h => h), _, (.mk _ _ trivial), ?_⟩
  refine ⟨(by first | trivial | exact fun p h => h), _, (let_ix (i := m - 1) (by omega) (by omega)), ?_⟩
  refine we_str ?_
  refine ⟨(by first | trivial | exact fun p h => h), _, (.str _ _ (small (by rw [S_col]; simp [S_len]))), ?_⟩
  rw [S_col, S_app]
  refine we_strM PySem.F.slot_str_join PySem.F.type_str_join mt_join oM_join rfl rfl rfl rfl rfl ?_
  refine we_str ?_
  refine ⟨⟨_, rfl⟩, ?_⟩
  refine wa_cons rfl ?_
  refine we_lc0 (own := [("_law_x",2),("_law_y",3)]) (g := (fun X => gTup X.K 2 (gsN [2, 3]))) (tgi_tup [2, 3]) (by decide) rfl nd (pi_tup pe_sE) (blk_cx (by decide +kernel)) (fun _ _ _ _ _ => pg_tup rfl (pgs_cons (pg_name nd rfl (by first | exact Or.inl rfl | exact Or.inr rfl) (by first | exact Or.inl rfl | exact Or.inr rfl)) (pgs_cons (pg_name nd rfl (by first | exact Or.inl rfl | exact Or.inr rfl) (by first | exact Or.inl rfl | exact Or.inr rfl)) pgs_nil))) (fun _ => rfl) ?_
  refine wi_tup ?_
  refine we_ix ix_seq o2_ix (fun _ _ => rfl) ?_
  refine we_var 0 _ rfl (by first | exact Or.inl rfl | exact Or.inr (Or.inl rfl) | exact Or.inr (Or.inr rfl)) (by decide) (by decide) rfl ?_
  refine we_int ?_
  refine ⟨(by first | trivial | exact fun p h => h), _, (.tup _ _ (.tuple (tiesD ts)) rfl), ?_⟩
  refine ⟨trivial, tiesD ts, rfl, ?_⟩
  refine lcI_map (fun d => .str (S (tc ((intOf ((itemsD d).getD 0 .none)), (intOf ((itemsD d).getD 1 .none)))))) ?_ (fun d hd => ?_) ?_
  · unfold tiesD
    rw [List.length_map]
    omega
  · obtain ⟨t, ht, rfl⟩ := List.mem_map.mp (show d ∈ ts.map tieD from hd)
    have hf := hw.fit t ht
    refine ⟨_, ⟨[.int t.1, .int t.2], rfl, rfl, rfl⟩, rfl, fun s0 H0 C cl fp => ?_⟩
    refine we_op2 op_addA o2_add ?_
    refine we_ix ix_seq o2_ix (fun _ _ => rfl) ?_
    refine we_var 1 _ rfl (by first | exact Or.inl rfl | exact Or.inr (Or.inl rfl) | exact Or.inr (Or.inr rfl)) (by decide) (by decide) rfl ?_
    refine we_var 2 _ rfl (by first | exact Or.inl rfl | exact Or.inr (Or.inl rfl) | exact Or.inr (Or.inr rfl)) (by decide) (by decide) rfl ?_
    refine ⟨(by first | trivial | exact fun p h => h), _, (let_ix (by omega) (by omega)), ?_⟩
    refine we_ix ix_seq o2_ix (fun _ _ => rfl) ?_
    refine we_var 1 _ rfl (by first | exact Or.inl rfl | exact Or.inr (Or.inl rfl) | exact Or.inr (Or.inr rfl)) (by decide) (by decide) rfl ?_
    refine we_var 3 _ rfl (by first | exact Or.inl rfl | exact Or.inr (Or.inl rfl) | exact Or.inr (Or.inr rfl)) (by decide) (by decide) rfl ?_
    refine ⟨(by first | trivial | exact fun p h => h), _, (let_ix (by omega) (by omega)), ?_⟩
    refine ⟨(by first | trivial | exact fun p h => h), _, (.str _ _ (small (by simp [S_len]))), ?_⟩
    rw [S_app]
    exact ⟨rfl, rfl⟩
  · have e1 : (tiesD ts).map (fun d => PyData.str (S (tc ((intOf ((itemsD d).getD 0 .none)), (intOf ((itemsD d).getD 1 .none)))))) = strsD (ts.map fun t => S (tc t)) := by
      unfold tiesD strsD
      rw [List.map_map, List.map_map]
      rfl
    rw [e1]
    refine wa_nil ?_
    refine ⟨(by first | trivial | exact fun p h => h), ?_⟩
    have hsum := words_sum ts
    refine ⟨_, .mk "," (ts.map fun t => S (tc t)) ?_, ?_⟩
    · rw [hsum, List.length_map, S_com, S_len]
      show 2 * ts.length + ts.length * 1 ≤ _
      omega
    · rw [join_body]
      have hb := body_len ts
      refine ⟨(by first | trivial | exact fun p h => h), _, (.str _ _ (small (by simp only [S_len, List.length_append, List.length_cons, List.length_nil]; omega))), ?_⟩
      rw [S_app]
      have e2 : 97 + (m - 1).toNat = 96 + m.toNat := by omega
      rw [e2]
      refine ⟨_, Back.any (Back.nil), ?_⟩
      exact hR
theorem sign_ix {k : Int} (h0 : 0 ≤ k) (h1 : k < 23) : ∃ c, SIx (.str "abcdefghijklm:,;AB0 -\n\t") (.int k) (.d (.str (S [c]))) := by
  obtain ⟨n, rfl⟩ := Int.eq_ofNat_of_zero_le h0
  have hl : ("abcdefghijklm:,;AB0 -\n\t" : Str).cps.toList.length = 23 := by decide +kernel
  have hn : n < ("abcdefghijklm:,;AB0 -\n\t" : Str).cps.toList.length := by omega
  refine ⟨("abcdefghijklm:,;AB0 -\n\t" : Str).cps.toList[n], .str _ _ _ (by decide +kernel) ?_⟩
  show atI ("abcdefghijklm:,;AB0 -\n\t" : Str).cps.toList (n : Int) = _
  unfold atI
  rw [ix_nat hn]
  exact List.getElem?_eq_getElem hn
theorem app_len (a b : Str) : (a ++ b).length = a.length + b.length := by
  show (a.cps ++ b.cps).size = a.cps.size + b.cps.size
  exact Array.size_append
def spBent : BSp := fun as R _ => ∃ p cs z, as = [.own p cs, .dat (.str z)] ∧ Cup cs ∧ z.length ≤ 500 ∧ ∀ cs' z', Cup cs' → z'.length ≤ 5000 → R (.d (.str z')) [.own p cs', .any]
theorem ok_law_bent (M : NoSh mg) (D1 : Df P w K mg base 1 "_law_sip" ["_law_cup_here", "_law_many"] spSip) (h : Has K mg "_law_bent" s_law_bent ["_law_cup_here", "_law_text"]) : Df P w K mg base 2 "_law_bent" ["_law_cup_here", "_law_text"] spBent := by
  refine h.df (k := 1) sc_law_bent (fun as R Y ⟨_, _, _, e, _⟩ => by rw [e]; rfl) fun f cdv A outer s H E I as R Y ⟨p, cs, z, e, hc, hz, hR⟩ => ?_
  subst e
  have nd := sc_law_bent.nd
  refine ws_cons ?_
  refine w1_forR1 (g := fun _ => gName 2) (passes_of rfl) rfl (pg_name nd rfl (by first | exact Or.inl rfl | exact Or.inr rfl)) (tg_name 2) rfl (M _ (by decide)) rfl (fun _ => rfl) ?_
  refine wa_cons rfl ?_
  refine we_op2 op_addA o2_add ?_
  refine we_int ?_
  refine we_callC (Df.cal D1 (InD.mono I (by omega))) .nil (drs := []) (fun _ _ => DpAll.nil) rfl (by decide) rfl rfl ?_
  refine wa_cons rfl ?_
  refine we_bor 0 _ _ rfl (by first | exact Or.inl rfl | exact Or.inr (Or.inl rfl) | exact Or.inr (Or.inr rfl)) (by decide) (by decide) rfl ?_
  refine wa_cons rfl ?_
  refine we_int ?_
  refine wa_nil ?_
  refine ⟨(by first | trivial | exact fun p h => h), (by first | trivial | exact fun p h => h), ?_⟩
  refine ⟨0, p, cs, [.d (.int 2)], rfl, nb_of ⟨trivial, trivial⟩, rfl, ?_⟩
  refine ⟨p, cs, 2, rfl, hc, by omega, by omega, fun cs k hc k0 k1 => ⟨cs, _, rfl, ?_⟩⟩
  refine ⟨(by first | trivial | exact fun p h => h), _, (.int _ _), ?_⟩
  refine wa_nil ?_
  refine ⟨(by first | trivial | exact fun p h => h), ?_⟩
  refine ⟨1 + k, rfl, by omega, fun i ρ => ∃ cs z s2 s3 s4 s5, ρ = [.own p cs, .dat (.str z), s2, s3, s4, s5] ∧ Cup cs ∧ z.length + 1 ≤ 501 * 3 ^ i ∧ i ≤ 2, ⟨cs, z, _, _, _, _, rfl, hc, by omega, by omega⟩, fun i ρ hi ⟨cs, z, s2, s3, s4, s5, e, hc, hz, hi2⟩ => ?_, fun ρ ⟨cs, z, s2, s3, s4, s5, e, hc, hz, hi2⟩ => ?_⟩
  · subst e
    refine ⟨_, rfl, ?_⟩
    have hi1 : i ≤ 1 := by omega
    have hz1 : z.length + 1 ≤ 1503 := by
      have : i = 0 ∨ i = 1 := by omega
      rcases this with rfl | rfl
      · have : z.length + 1 ≤ 501 := hz
        omega
      · exact hz
    have hzs : z.length ≤ sizeLine := small (by omega)
    have fin : ∀ z' : Str, z'.length ≤ 3 * z.length + 1 → z'.length + 1 ≤ 501 * 3 ^ (i + 1) := fun z' h => by
      rw [Nat.pow_succ, ← Nat.mul_assoc]
      omega
    have c1 := cutS_len z
    refine ws_cons ?_
    refine w1_par 3 4 rfl nd rfl rfl (by decide) rfl rfl rfl rfl ?_
    refine wa_cons rfl ?_
    refine we_callC (Df.cal D1 (InD.mono I (by omega))) .nil (drs := []) (fun _ _ => DpAll.nil) rfl (by decide) rfl rfl ?_
    refine wa_cons rfl ?_
    refine we_bor 0 _ _ rfl (by first | exact Or.inl rfl | exact Or.inr (Or.inl rfl) | exact Or.inr (Or.inr rfl)) (by decide) (by decide) rfl ?_
    refine wa_cons rfl ?_
    refine we_op2 op_addA o2_add ?_
    refine we_callB call_len oN_len rfl (M _ (by decide)) rfl (by decide) (by decide) rfl rfl ?_
    refine wa_cons rfl ?_
    refine we_var 1 _ rfl (by first | exact Or.inl rfl | exact Or.inr (Or.inl rfl) | exact Or.inr (Or.inr rfl)) (by decide) (by decide) rfl ?_
    refine wa_nil ?_
    refine ⟨(by first | trivial | exact fun p h => h), ?_⟩
    refine ⟨_, .str _ hzs, ?_⟩
    refine we_int ?_
    refine ⟨(by first | trivial | exact fun p h => h), _, (.int _ _), ?_⟩
    refine wa_nil ?_
    refine ⟨(by first | trivial | exact fun p h => h), (by first | trivial | exact fun p h => h), ?_⟩
    refine ⟨0, p, cs, [.d (.int ((z.length : Int) + 1))], rfl, nb_of ⟨trivial, trivial⟩, rfl, ?_⟩
    refine ⟨p, cs, (z.length : Int) + 1, rfl, hc, by omega, by omega, fun cs at_ hc a0 a1 => ⟨cs, _, rfl, ?_⟩⟩
    refine wa_cons rfl ?_
    refine we_ix ix_seq o2_ix (fun _ _ => rfl) ?_
    refine we_str ?_
    refine we_callC (Df.cal D1 (InD.mono I (by omega))) .nil (drs := []) (fun _ _ => DpAll.nil) rfl (by decide) rfl rfl ?_
    refine wa_cons rfl ?_
    refine we_bor 0 _ _ rfl (by first | exact Or.inl rfl | exact Or.inr (Or.inl rfl) | exact Or.inr (Or.inr rfl)) (by decide) (by decide) rfl ?_
    refine wa_cons rfl ?_
    refine we_int ?_
    refine wa_nil ?_
    refine ⟨(by first | trivial | exact fun p h => h), (by first | trivial | exact fun p h => h), ?_⟩
    refine ⟨0, p, cs, [.d (.int 23)], rfl, nb_of ⟨trivial, trivial⟩, rfl, ?_⟩
    refine ⟨p, cs, 23, rfl, hc, by omega, by omega, fun cs sg hc g0 g1 => ⟨cs, _, rfl, ?_⟩⟩
    obtain ⟨c, hsg⟩ := sign_ix g0 g1
    refine ⟨(by first | trivial | exact fun p h => h), _, hsg, ?_⟩
    refine wa_nil ?_
    refine ⟨(by first | trivial | exact fun p h => h), (by first | trivial | exact fun p h => h), ?_⟩
    refine ⟨_, _, rfl, ?_⟩
    refine ws_cons ?_
    refine w1_set 5 nd rfl (by first | exact Or.inl rfl | exact Or.inr rfl) rfl (by first | exact Or.inl rfl | exact Or.inr rfl) ?_
    refine we_callC (Df.cal D1 (InD.mono I (by omega))) .nil (drs := []) (fun _ _ => DpAll.nil) rfl (by decide) rfl rfl ?_
    refine wa_cons rfl ?_
    refine we_bor 0 _ _ rfl (by first | exact Or.inl rfl | exact Or.inr (Or.inl rfl) | exact Or.inr (Or.inr rfl)) (by decide) (by decide) rfl ?_
    refine wa_cons rfl ?_
    refine we_int ?_
    refine wa_nil ?_
    refine ⟨(by first | trivial | exact fun p h => h), (by first | trivial | exact fun p h => h), ?_⟩
    refine ⟨0, p, cs, [.d (.int 6)], rfl, nb_of ⟨trivial, trivial⟩, rfl, ?_⟩
    refine ⟨p, cs, 6, rfl, hc, by omega, by omega, fun cs way hc w0 w1 => ⟨cs, _, rfl, ?_⟩⟩
    have hS1 : (S [c]).length = 1 := S_len _
    have L1 := c1 none (some at_)
    have L2 := c1 (some at_) none
    have L3 := c1 (some (at_ + 1)) none
    have L4 := c1 (some at_) (some (at_ + 3))
    refine ws_cons ?_
    refine w1_if ?_
    refine wt_cmp (op_eqD (by exact room_u64 I.r)) o2_eq (nomark _) ?_
    refine we_var 5 _ rfl (by first | exact Or.inl rfl | exact Or.inr (Or.inl rfl) | exact Or.inr (Or.inr rfl)) (by decide) (by decide) rfl ?_
    refine we_int ?_
    refine ⟨(by first | trivial | exact fun p h => h), _, (SEq.int _ _), ?_⟩
    refine ⟨fun hb => ?_, fun hb => ?_⟩
    · refine ws_cons ?_
      refine w1_set 1 nd rfl (by first | exact Or.inl rfl | exact Or.inr rfl) rfl (by first | exact Or.inl rfl | exact Or.inr rfl) ?_
      refine we_slice sl_str oS_str ?_
      refine we_var 1 _ rfl (by first | exact Or.inl rfl | exact Or.inr (Or.inl rfl) | exact Or.inr (Or.inr rfl)) (by decide) (by decide) rfl ?_
      refine we_var 3 _ rfl (by first | exact Or.inl rfl | exact Or.inr (Or.inl rfl) | exact Or.inr (Or.inr rfl)) (by decide) (by decide) rfl ?_
      refine ⟨_, rfl, ?_⟩
      refine ⟨(by first | trivial | exact fun p h => h), _, (.str _ _ _ hzs), ?_⟩
      refine ws_nil ?_
      refine ws_nil ?_
      exact ⟨cs, _, _, _, _, _, rfl, hc, fin _ (by omega), by omega⟩
    · refine ws_cons ?_
      refine w1_if ?_
      refine wt_cmp (op_eqD (by exact room_u64 I.r)) o2_eq (nomark _) ?_
      refine we_var 5 _ rfl (by first | exact Or.inl rfl | exact Or.inr (Or.inl rfl) | exact Or.inr (Or.inr rfl)) (by decide) (by decide) rfl ?_
      refine we_int ?_
      refine ⟨(by first | trivial | exact fun p h => h), _, (SEq.int _ _), ?_⟩
      refine ⟨fun hb => ?_, fun hb => ?_⟩
      · refine ws_cons ?_
        refine w1_set 1 nd rfl (by first | exact Or.inl rfl | exact Or.inr rfl) rfl (by first | exact Or.inl rfl | exact Or.inr rfl) ?_
        refine we_op2 op_addA o2_add ?_
        refine we_op2 op_addA o2_add ?_
        refine we_slice sl_str oS_str ?_
        refine we_var 1 _ rfl (by first | exact Or.inl rfl | exact Or.inr (Or.inl rfl) | exact Or.inr (Or.inr rfl)) (by decide) (by decide) rfl ?_
        refine we_var 3 _ rfl (by first | exact Or.inl rfl | exact Or.inr (Or.inl rfl) | exact Or.inr (Or.inr rfl)) (by decide) (by decide) rfl ?_
        refine ⟨_, rfl, ?_⟩
        refine ⟨(by first | trivial | exact fun p h => h), _, (.str _ _ _ hzs), ?_⟩
        refine we_var 4 _ rfl (by first | exact Or.inl rfl | exact Or.inr (Or.inl rfl) | exact Or.inr (Or.inr rfl)) (by decide) (by decide) rfl ?_
        refine ⟨(by first | trivial | exact fun p h => h), _, (.str _ _ (small (by omega))), ?_⟩
        refine we_slice sl_str oS_str ?_
        refine we_var 1 _ rfl (by first | exact Or.inl rfl | exact Or.inr (Or.inl rfl) | exact Or.inr (Or.inr rfl)) (by decide) (by decide) rfl ?_
        refine we_var 3 _ rfl (by first | exact Or.inl rfl | exact Or.inr (Or.inl rfl) | exact Or.inr (Or.inr rfl)) (by decide) (by decide) rfl ?_
        refine ⟨_, rfl, ?_⟩
        refine ⟨(by first | trivial | exact fun p h => h), _, (.str _ _ _ hzs), ?_⟩
        refine ⟨(by first | trivial | exact fun p h => h), _, (.str _ _ (small (by rw [app_len]; omega))), ?_⟩
        refine ws_nil ?_
        refine ws_nil ?_
        refine ws_nil ?_
        exact ⟨cs, _, _, _, _, _, rfl, hc, fin _ (by rw [app_len, app_len]; omega), by omega⟩
      · refine ws_cons ?_
        refine w1_if ?_
        refine wt_cmp (op_eqD (by exact room_u64 I.r)) o2_eq (nomark _) ?_
        refine we_var 5 _ rfl (by first | exact Or.inl rfl | exact Or.inr (Or.inl rfl) | exact Or.inr (Or.inr rfl)) (by decide) (by decide) rfl ?_
        refine we_int ?_
        refine ⟨(by first | trivial | exact fun p h => h), _, (SEq.int _ _), ?_⟩
        refine ⟨fun hb => ?_, fun hb => ?_⟩
        · refine ws_cons ?_
          refine w1_set 1 nd rfl (by first | exact Or.inl rfl | exact Or.inr rfl) rfl (by first | exact Or.inl rfl | exact Or.inr rfl) ?_
          refine we_op2 op_addA o2_add ?_
          refine we_slice sl_str oS_str ?_
          refine we_var 1 _ rfl (by first | exact Or.inl rfl | exact Or.inr (Or.inl rfl) | exact Or.inr (Or.inr rfl)) (by decide) (by decide) rfl ?_
          refine we_var 3 _ rfl (by first | exact Or.inl rfl | exact Or.inr (Or.inl rfl) | exact Or.inr (Or.inr rfl)) (by decide) (by decide) rfl ?_
          refine ⟨_, rfl, ?_⟩
          refine ⟨(by first | trivial | exact fun p h => h), _, (.str _ _ _ hzs), ?_⟩
          refine we_slice sl_str oS_str ?_
          refine we_var 1 _ rfl (by first | exact Or.inl rfl | exact Or.inr (Or.inl rfl) | exact Or.inr (Or.inr rfl)) (by decide) (by decide) rfl ?_
          refine we_op2 op_addA o2_add ?_
          refine we_var 3 _ rfl (by first | exact Or.inl rfl | exact Or.inr (Or.inl rfl) | exact Or.inr (Or.inr rfl)) (by decide) (by decide) rfl ?_
          refine we_int ?_
          refine ⟨(by first | trivial | exact fun p h => h), _, (.int _ _), ?_⟩
          refine ⟨_, rfl, ?_⟩
          refine ⟨(by first | trivial | exact fun p h => h), _, (.str _ _ _ hzs), ?_⟩
          refine ⟨(by first | trivial | exact fun p h => h), _, (.str _ _ (small (by omega))), ?_⟩
          refine ws_nil ?_
          refine ws_nil ?_
          refine ws_nil ?_
          refine ws_nil ?_
          exact ⟨cs, _, _, _, _, _, rfl, hc, fin _ (by rw [app_len]; omega), by omega⟩
        · refine ws_cons ?_
          refine w1_if ?_
          refine wt_cmp (op_eqD (by exact room_u64 I.r)) o2_eq (nomark _) ?_
          refine we_var 5 _ rfl (by first | exact Or.inl rfl | exact Or.inr (Or.inl rfl) | exact Or.inr (Or.inr rfl)) (by decide) (by decide) rfl ?_
          refine we_int ?_
          refine ⟨(by first | trivial | exact fun p h => h), _, (SEq.int _ _), ?_⟩
          refine ⟨fun hb => ?_, fun hb => ?_⟩
          · refine ws_cons ?_
            refine w1_set 1 nd rfl (by first | exact Or.inl rfl | exact Or.inr rfl) rfl (by first | exact Or.inl rfl | exact Or.inr rfl) ?_
            refine we_op2 op_addA o2_add ?_
            refine we_op2 op_addA o2_add ?_
            refine we_slice sl_str oS_str ?_
            refine we_var 1 _ rfl (by first | exact Or.inl rfl | exact Or.inr (Or.inl rfl) | exact Or.inr (Or.inr rfl)) (by decide) (by decide) rfl ?_
            refine we_var 3 _ rfl (by first | exact Or.inl rfl | exact Or.inr (Or.inl rfl) | exact Or.inr (Or.inr rfl)) (by decide) (by decide) rfl ?_
            refine ⟨_, rfl, ?_⟩
            refine ⟨(by first | trivial | exact fun p h => h), _, (.str _ _ _ hzs), ?_⟩
            refine we_slice sl_str oS_str ?_
            refine we_var 1 _ rfl (by first | exact Or.inl rfl | exact Or.inr (Or.inl rfl) | exact Or.inr (Or.inr rfl)) (by decide) (by decide) rfl ?_
            refine we_var 3 _ rfl (by first | exact Or.inl rfl | exact Or.inr (Or.inl rfl) | exact Or.inr (Or.inr rfl)) (by decide) (by decide) rfl ?_
            refine ⟨_, rfl, ?_⟩
            refine we_op2 op_addA o2_add ?_
            refine we_var 3 _ rfl (by first | exact Or.inl rfl | exact Or.inr (Or.inl rfl) | exact Or.inr (Or.inr rfl)) (by decide) (by decide) rfl ?_
            refine we_int ?_
            refine ⟨(by first | trivial | exact fun p h => h), _, (.int _ _), ?_⟩
            refine ⟨_, rfl, ?_⟩
            refine ⟨(by first | trivial | exact fun p h => h), _, (.str _ _ _ hzs), ?_⟩
            refine ⟨(by first | trivial | exact fun p h => h), _, (.str _ _ (small (by omega))), ?_⟩
            refine we_slice sl_str oS_str ?_
            refine we_var 1 _ rfl (by first | exact Or.inl rfl | exact Or.inr (Or.inl rfl) | exact Or.inr (Or.inr rfl)) (by decide) (by decide) rfl ?_
            refine we_var 3 _ rfl (by first | exact Or.inl rfl | exact Or.inr (Or.inl rfl) | exact Or.inr (Or.inr rfl)) (by decide) (by decide) rfl ?_
            refine ⟨_, rfl, ?_⟩
            refine ⟨(by first | trivial | exact fun p h => h), _, (.str _ _ _ hzs), ?_⟩
            refine ⟨(by first | trivial | exact fun p h => h), _, (.str _ _ (small (by rw [app_len]; omega))), ?_⟩
            refine ws_nil ?_
            refine ws_nil ?_
            refine ws_nil ?_
            refine ws_nil ?_
            refine ws_nil ?_
            exact ⟨cs, _, _, _, _, _, rfl, hc, fin _ (by rw [app_len, app_len]; omega), by omega⟩
          · refine ws_cons ?_
            refine w1_set 1 nd rfl (by first | exact Or.inl rfl | exact Or.inr rfl) rfl (by first | exact Or.inl rfl | exact Or.inr rfl) ?_
            refine we_op2 op_addA o2_add ?_
            refine we_op2 op_addA o2_add ?_
            refine we_slice sl_str oS_str ?_
            refine we_var 1 _ rfl (by first | exact Or.inl rfl | exact Or.inr (Or.inl rfl) | exact Or.inr (Or.inr rfl)) (by decide) (by decide) rfl ?_
            refine we_var 3 _ rfl (by first | exact Or.inl rfl | exact Or.inr (Or.inl rfl) | exact Or.inr (Or.inr rfl)) (by decide) (by decide) rfl ?_
            refine ⟨_, rfl, ?_⟩
            refine ⟨(by first | trivial | exact fun p h => h), _, (.str _ _ _ hzs), ?_⟩
            refine we_var 4 _ rfl (by first | exact Or.inl rfl | exact Or.inr (Or.inl rfl) | exact Or.inr (Or.inr rfl)) (by decide) (by decide) rfl ?_
            refine ⟨(by first | trivial | exact fun p h => h), _, (.str _ _ (small (by omega))), ?_⟩
            refine we_slice sl_str oS_str ?_
            refine we_var 1 _ rfl (by first | exact Or.inl rfl | exact Or.inr (Or.inl rfl) | exact Or.inr (Or.inr rfl)) (by decide) (by decide) rfl ?_
            refine we_op2 op_addA o2_add ?_
            refine we_var 3 _ rfl (by first | exact Or.inl rfl | exact Or.inr (Or.inl rfl) | exact Or.inr (Or.inr rfl)) (by decide) (by decide) rfl ?_
            refine we_int ?_
            refine ⟨(by first | trivial | exact fun p h => h), _, (.int _ _), ?_⟩
            refine ⟨_, rfl, ?_⟩
            refine ⟨(by first | trivial | exact fun p h => h), _, (.str _ _ _ hzs), ?_⟩
            refine ⟨(by first | trivial | exact fun p h => h), _, (.str _ _ (small (by rw [app_len]; omega))), ?_⟩
            refine ws_nil ?_
            refine ws_nil ?_
            refine ws_nil ?_
            refine ws_nil ?_
            refine ws_nil ?_
            exact ⟨cs, _, _, _, _, _, rfl, hc, fin _ (by rw [app_len, app_len]; omega), by omega⟩
  · subst e
    have hz2 : z.length ≤ 5000 := by
      have hk : k = 0 ∨ k = 1 := by omega
      rcases hk with rfl | rfl
      · have : z.length + 1 ≤ 1503 := hz
        omega
      · have : z.length + 1 ≤ 4509 := hz
        omega
    refine ws_cons ?_
    refine w1_ret ?_
    refine we_var 1 _ rfl (by first | exact Or.inl rfl | exact Or.inr (Or.inl rfl) | exact Or.inr (Or.inr rfl)) (by decide) (by decide) rfl ?_
    refine ⟨_, .own (.any .nil), ?_⟩
    exact hR _ _ hc hz2
theorem InDtr {X : Cx} {k : Nat} (I : InD X P w K mg base k) {pn : List (Addr × Obj)} {xe : Value → Shared → Prop} : InD (X.tr pn xe) P w K mg base k := ⟨I.p, I.w, I.K, I.mg, I.b, I.r, I.g⟩
def spLTold : BSp := fun as R _ => ∃ d, as = [.dat d] ∧ (isStr d = false → R (.d (resD (.err 0))) [.any]) ∧ ∀ xs, d = .str (S xs) → xs.length ≤ 90000 ∧ R (.d (resD (readM xs))) [.any]
theorem ok_law_told {C CP : Addr} (XF : ExF P K mg "InvalidText" C "index" "index") (hP : mg "PairError" = some (.ref CP)) (hx : PySem.W.exmOne K (.ref C) (.ref C) = some true) (D1 : Df P w K mg base 5 "web_told" ["text"] (spTold C)) (h : Has K mg "_law_told" s_law_told ["_law_value"]) : Df P w K mg base 6 "_law_told" ["_law_value"] spLTold := by
  refine h.df (k := 5) sc_law_told (fun as R Y ⟨_, e, _⟩ => by rw [e]; rfl) fun f cdv A outer s H E I as R Y ⟨d, e, hN, hS⟩ => ?_
  subst e
  have nd := sc_law_told.nd
  refine ws_cons ?_
  refine w1_set 1 nd rfl (by first | exact Or.inl rfl | exact Or.inr rfl) rfl (by first | exact Or.inl rfl | exact Or.inr rfl) ?_
  refine we_str ?_
  refine ws_cons ?_
  refine w1_try2 rfl rfl nd (.cons (some (2, "e")) ⟨rfl, rfl, .inl XF.gC⟩ (fun q hq => by cases hq; exact ⟨rfl, rfl⟩) rfl (.cons none ⟨rfl, rfl, .inl hP⟩ (fun q hq => by cases hq) rfl .nil)) fun pn xe po => ?_
  refine ws_cons ?_
  refine w1_set 1 nd rfl (by first | exact Or.inl rfl | exact Or.inr rfl) rfl (by first | exact Or.inl rfl | exact Or.inr rfl) ?_
  refine we_tup (by decide) ?_
  refine wa_cons rfl ?_
  refine we_non ?_
  refine wa_cons rfl ?_
  refine we_call (Df.cal D1 (InD.mono (InDtr I) (by omega))) .nil (drs := []) (fun _ _ => DpAll.nil) rfl (by decide) rfl rfl ?_
  refine wa_cons rfl ?_
  refine we_var 0 _ rfl (by first | exact Or.inl rfl | exact Or.inr (Or.inl rfl) | exact Or.inr (Or.inr rfl)) (by decide) (by decide) rfl ?_
  refine wa_nil ?_
  refine ⟨(by first | trivial | exact fun p h => h), ?_⟩
  refine ⟨nb_of ⟨trivial, trivial⟩, ?_⟩
  refine ⟨d, rfl, fun hn => ?_, fun xs hxs => ?_⟩
  · refine ⟨true, hx, fun _ a d oe pn hz hf => ?_, fun z => by cases z⟩
    refine ws_cons ?_
    refine w1_set 1 nd rfl (by first | exact Or.inl rfl | exact Or.inr rfl) rfl (by first | exact Or.inl rfl | exact Or.inr rfl) ?_
    refine we_tup (by decide) ?_
    refine wa_cons rfl ?_
    refine we_exf XF.rd XF.hno hz hf rfl (i := 2) rfl (Or.inl rfl) (by decide) (by decide) rfl rfl rfl ?_
    refine wa_cons rfl ?_
    refine we_non ?_
    refine wa_nil ?_
    refine ⟨(by first | trivial | exact fun p h => h), (by first | trivial | exact fun p h => h), ?_⟩
    refine ⟨nb_of ⟨trivial, trivial, trivial⟩, Nat.le_of_ble_eq_true rfl, ?_⟩
    refine ws_nil ?_
    refine ws_cons ?_
    refine w1_ret ?_
    refine we_var 1 _ rfl (by first | exact Or.inl rfl | exact Or.inr (Or.inl rfl) | exact Or.inr (Or.inr rfl)) (by decide) (by decide) rfl ?_
    refine ⟨_, Back.any (Back.nil), ?_⟩
    exact hN hn
  · obtain ⟨hx9, hR⟩ := hS xs hxs
    refine ⟨hx9, fun m ts hok => ?_, fun k hk => ?_⟩
    · rw [hok] at hR
      refine wa_nil ?_
      refine ⟨(by first | trivial | exact fun p h => h), (by first | trivial | exact fun p h => h), ?_⟩
      refine ⟨nb_of ⟨trivial, trivial, trivial⟩, Nat.le_of_ble_eq_true rfl, ?_⟩
      refine ws_nil ?_
      refine ws_cons ?_
      refine w1_ret ?_
      refine we_var 1 _ rfl (by first | exact Or.inl rfl | exact Or.inr (Or.inl rfl) | exact Or.inr (Or.inr rfl)) (by decide) (by decide) rfl ?_
      refine ⟨_, Back.any (Back.nil), ?_⟩
      exact hR
    · rw [hk] at hR
      refine ⟨true, hx, fun _ a d oe pn hz hf => ?_, fun z => by cases z⟩
      refine ws_cons ?_
      refine w1_set 1 nd rfl (by first | exact Or.inl rfl | exact Or.inr rfl) rfl (by first | exact Or.inl rfl | exact Or.inr rfl) ?_
      refine we_tup (by decide) ?_
      refine wa_cons rfl ?_
      refine we_exf XF.rd XF.hno hz hf rfl (i := 2) rfl (Or.inl rfl) (by decide) (by decide) rfl rfl rfl ?_
      refine wa_cons rfl ?_
      refine we_non ?_
      refine wa_nil ?_
      refine ⟨(by first | trivial | exact fun p h => h), (by first | trivial | exact fun p h => h), ?_⟩
      refine ⟨nb_of ⟨trivial, trivial, trivial⟩, Nat.le_of_ble_eq_true rfl, ?_⟩
      refine ws_nil ?_
      refine ws_cons ?_
      refine w1_ret ?_
      refine we_var 1 _ rfl (by first | exact Or.inl rfl | exact Or.inr (Or.inl rfl) | exact Or.inr (Or.inr rfl)) (by decide) (by decide) rfl ?_
      refine ⟨_, Back.any (Back.nil), ?_⟩
      exact hR
end
end K

set_option maxHeartbeats 8000000
namespace K
open PySem PySem.Spec PyProof.Rows L2 Bs
abbrev s_law : Stmt := top 21
theorem sc_law : FnScope ["_law_script", "_law_cell", "_law_cup_here", "_law_text", "_law_odd", "_law_value"] ["_law_script"] (defScope s_law) := ⟨rfl, rfl, rfl, by decide +kernel, rfl, by decide +kernel, by decide +kernel⟩
theorem cutD_mem {ds : List PyData} {l u : Option Int} {d : PyData} (h : d ∈ Bs.cutD ds l u) : d ∈ ds := List.mem_of_mem_drop (List.mem_of_mem_take h)
theorem cutD_len (ds : List PyData) (l u : Option Int) : (Bs.cutD ds l u).length ≤ ds.length := by
  unfold Bs.cutD
  rw [List.length_take, List.length_drop]
  omega
/-! what is read is a web -/
theorem isW_ahead {m : Int} {ts : List Tie} {f : Option Int} {t : Tie} (h : IsW m ts) (ht : t ∈ ahead m ts f) : IsW m (ts ++ [t]) := by
  have a := ahead_mem.mp ht
  refine h.snoc (ahead_fit ht) fun s hs => ?_
  have hl := a.2.1
  unfold afterL at hl
  cases e : ts.getLast? with
  | none =>
    have : ts = [] := List.getLast?_eq_none_iff.mp e
    rw [this] at hs
    cases hs
  | some l =>
    rw [e] at hl
    have hlt : TLt l t := (tlt_iff _ _).mp hl
    obtain ⟨us, hus⟩ : ∃ us, ts = us ++ [l] := by
      have hne : ts ≠ [] := fun z => by rw [z] at hs; cases hs
      have := List.getLast?_eq_some_getLast hne
      rw [this] at e
      cases e
      exact ⟨ts.dropLast, (List.dropLast_concat_getLast hne).symm⟩
    rw [hus] at hs
    rcases List.mem_append.mp hs with hs | hs
    · have hp := h.asc
      rw [hus] at hp
      exact tlt_trans ((List.pairwise_append.mp hp).2.2 s hs l List.mem_cons_self) hlt
    · rw [List.mem_singleton.mp hs]
      exact hlt
theorem go_isW {m m' : Int} {ts' : List Tie} : ∀ {xs : List Nat} {k : Nat} {ts : List Tie} {ph : Ph}, IsW m ts → go m xs k ts ph = .ok m' ts' → IsW m ts'
  | [], k, ts, ph, hw, h => by
    have h : (if ph.isCom = true ∨ k = 2 then Res.ok m ts else .err k) = .ok m' ts' := h
    split at h
    · cases h; exact hw
    · cases h
  | c :: cs, k, ts, .com, hw, h => by
    have h : (if c ≠ 44 ∨ ahead m ts none = [] then Res.err k else go m cs (k + 1) ts .tie) = .ok m' ts' := h
    split at h
    · cases h
    · exact go_isW hw h
  | c :: cs, k, ts, .tie, hw, h => by
    have h : (if plc c < 0 ∨ ahead m ts (some (plc c)) = [] then Res.err k else go m cs (k + 1) ts (.fin (plc c))) = .ok m' ts' := h
    split at h
    · cases h
    · exact go_isW hw h
  | c :: cs, k, ts, .fin p, hw, h => by
    have h : (if plc c < 0 ∨ (p, plc c) ∉ ahead m ts (some p) then Res.err k else go m cs (k + 1) (ts ++ [(p, plc c)]) .com) = .ok m' ts' := h
    split at h
    · cases h
    · rename_i hn
      have hm : (p, plc c) ∈ ahead m ts (some p) := Decidable.byContradiction fun z => hn (.inr z)
      exact go_isW (isW_ahead hw hm) h
theorem go_err {m : Int} {e : Nat} : ∀ {xs : List Nat} {k : Nat} {ts : List Tie} {ph : Ph}, go m xs k ts ph = .err e → e ≤ k + xs.length
  | [], k, ts, ph, h => by
    have h : (if ph.isCom = true ∨ k = 2 then Res.ok m ts else .err k) = .err e := h
    split at h
    · cases h
    · cases h; exact Nat.le_add_right _ _
  | c :: cs, k, ts, .com, h => by
    have h : (if c ≠ 44 ∨ ahead m ts none = [] then Res.err k else go m cs (k + 1) ts .tie) = .err e := h
    split at h
    · cases h; exact Nat.le_add_right _ _
    · have := go_err h; rw [List.length_cons]; omega
  | c :: cs, k, ts, .tie, h => by
    have h : (if plc c < 0 ∨ ahead m ts (some (plc c)) = [] then Res.err k else go m cs (k + 1) ts (.fin (plc c))) = .err e := h
    split at h
    · cases h; exact Nat.le_add_right _ _
    · have := go_err h; rw [List.length_cons]; omega
  | c :: cs, k, ts, .fin p, h => by
    have h : (if plc c < 0 ∨ (p, plc c) ∉ ahead m ts (some p) then Res.err k else go m cs (k + 1) (ts ++ [(p, plc c)]) .com) = .err e := h
    split at h
    · cases h; exact Nat.le_add_right _ _
    · have := go_err h; rw [List.length_cons]; omega
theorem read_ok {xs : List Nat} {m : Int} {ts : List Tie} (h : readM xs = .ok m ts) : 1 ≤ m ∧ m ≤ 12 ∧ IsW m ts := by
  match xs, h with
  | c :: cs, h =>
    by_cases hp : plc c < 0
    · rw [rd0 hp] at h; cases h
    · have hp : 0 ≤ plc c := by omega
      obtain ⟨j, hj, _, ej⟩ := plc_of hp
      match cs, h with
      | [], h => rw [rd1 hp] at h; cases h
      | d :: ds, h =>
        by_cases hd : d = 58
        · rw [hd, rd3 hp] at h
          have e := go_m h
          rw [e]
          exact ⟨by omega, by omega, go_isW ⟨fun t ht => by simp at ht, .nil⟩ h⟩
        · rw [rd2 hp hd] at h; cases h
theorem read_err {xs : List Nat} {k : Nat} (h : readM xs = .err k) : k ≤ xs.length + 2 := by
  match xs, h with
  | [], h => cases h; exact Nat.zero_le _
  | c :: cs, h =>
    by_cases hp : plc c < 0
    · rw [rd0 hp] at h; cases h; exact Nat.zero_le _
    · have hp : 0 ≤ plc c := by omega
      match cs, h with
      | [], h => rw [rd1 hp] at h; cases h; simp
      | d :: ds, h =>
        by_cases hd : d = 58
        · rw [hd, rd3 hp] at h
          have := go_err h
          simp only [List.length_cons]
          omega
        · rw [rd2 hp hd] at h; cases h; simp
theorem log_small {i : Nat} (h : i ≤ 100000) : Nat.log2 ((i : Int)).natAbs ≤ 17 := by
  rw [Int.natAbs_natCast]
  by_cases h0 : i = 0
  · subst h0; decide
  · have : i.log2 < 17 := (Nat.log2_lt h0).mpr (Nat.lt_of_le_of_lt h (by decide))
    omega
theorem ls_int2 {i : Nat} (h1 : i ≤ 100000) : PyData.leavesShort 13 (.int (i : Int)) = true := by
  rw [PyData.leavesShort]
  exact decide_eq_true (PyData.shown_int_le (by omega))
theorem w_int2 {i : Nat} (h1 : i ≤ 100000) : PyData.weight (.int (i : Int)) ≤ 100000 := by
  rw [PyData.weight]
  split
  · exact Nat.zero_le _
  · have := log_small h1
    omega
theorem sh_int2 {i : Nat} (h1 : i ≤ 100000) : PyData.showable (.int (i : Int)) = true := by
  rw [PyData.showable]
  have := log_small h1
  exact decide_eq_true (by omega)
theorem rep_res {xs : List Nat} (hl : xs.length ≤ 90000) : SRep [resD (readM xs)] (.d (.str (resD (readM xs)).shown)) := by
  cases hr : readM xs with
  | err k =>
    have hk : k ≤ 100000 := by have := read_err hr; omega
    have w1 := w_int2 hk
    have l1 := ls_int2 hk
    have s1 := sh_int2 hk
    refine .mk _ ?_ ?_ ?_
    · show PyData.showable (.tuple [.int (k : Int), .none]) = true
      simp only [PyData.showable, PyData.showableAll] at s1 ⊢
      rw [s1]
      rfl
    · refine PyData.shown_fits (B := 13) (by decide) (by decide) ?_ ?_
      · show PyData.leavesShort 13 (.tuple [.int (k : Int), .none]) = true
        simp only [PyData.leavesShort, PyData.leavesShortAll] at l1 ⊢
        rw [l1]
        rfl
      · show PyData.weight (.tuple [.int (k : Int), .none]) ≤ _
        rw [PyData.weight, PyData.weightAll, PyData.weightAll, PyData.weightAll]
        exact Nat.le_trans (show _ ≤ 200000 by simp only [PyData.weight] at w1 ⊢; omega) (by decide)
    · show PyData.depth (.tuple [.int (k : Int), .none]) ≤ 60
      simp [PyData.depth, PyData.depthAll]
  | ok m ts =>
    obtain ⟨h0, h1, hw⟩ := read_ok hr
    have hn := hw.len h1
    obtain ⟨a1, a2, a3, a4, a5⟩ := ties_small (ts := ts) fun t ht => by have := hw.fit t ht; omega
    have w1 := w_int (i := m) (by omega) h1
    have l1 := ls_int (i := m) (by omega) h1
    have s1 := sh_int (i := m) (by omega) h1
    refine .mk _ ?_ ?_ ?_
    · show PyData.showable (.tuple [.none, .tuple [.int m, .tuple (tiesD ts)]]) = true
      simp only [PyData.showable, PyData.showableAll] at s1 ⊢
      rw [s1, a3]
      rfl
    · refine PyData.shown_fits (B := 13) (by decide) (by decide) ?_ ?_
      · show PyData.leavesShort 13 (.tuple [.none, .tuple [.int m, .tuple (tiesD ts)]]) = true
        simp only [PyData.leavesShort, PyData.leavesShortAll] at l1 ⊢
        rw [l1, a2]
        rfl
      · show PyData.weight (.tuple [.none, .tuple [.int m, .tuple (tiesD ts)]]) ≤ _
        simp only [PyData.weight, PyData.weightAll] at w1 ⊢
        exact Nat.le_trans (show _ ≤ 10000 by omega) (by decide)
    · show PyData.depth (.tuple [.none, .tuple [.int m, .tuple (tiesD ts)]]) ≤ 60
      simp only [PyData.depth, PyData.depthAll]
      omega
end K

set_option maxHeartbeats 8000000
namespace K
open PySem PySem.Spec PyProof.Rows L2 Bs
theorem two_at {k : Int} (h0 : 0 ≤ k) (h1 : k < 2) : ∃ a : Int, atI [PyData.int 5, .int 12] k = some (.int a) ∧ 1 ≤ a ∧ a ≤ 12 := by
  have : k = 0 ∨ k = 1 := by omega
  rcases this with rfl | rfl
  · exact ⟨5, rfl, by omega, by omega⟩
  · exact ⟨12, rfl, by omega, by omega⟩
def Sm (d : PyData) : Prop := ∃ z : Str, d = .str z ∧ z.length ≤ 30000
theorem sm (z : Str) (h : z.length ≤ 30000) : Sm (.str z) := ⟨z, rfl, h⟩
theorem mul1 : MulOk "c" 20000 := ⟨by decide, fun _ _ => by decide +kernel, fun _ _ => by decide +kernel⟩
theorem mul2 : MulOk "ab," 6600 := ⟨by decide, fun _ _ => by decide +kernel, fun _ _ => by decide +kernel⟩
theorem mul1l : (Txt.mul "c" 20000).length ≤ 20000 := mul_len "c" 20000
theorem mul2l : (Txt.mul "ab," 6600).length ≤ 19800 := mul_len "ab," 6600
theorem sm1 {n : Int} (h : n = 20000) : ∃ z : Str, z.length ≤ 20000 ∧ SMulS (.str "c") (.int n) (.d (.str z)) := by
  rw [h]
  exact ⟨_, mul1l, .mk _ _ mul1⟩
theorem sm2 {n : Int} (h : n = 6600) : ∃ z : Str, z.length ≤ 19800 ∧ SMulS (.str "ab,") (.int n) (.d (.str z)) := by
  rw [h]
  exact ⟨_, mul2l, .mk _ _ mul2⟩
theorem eqv_0n : PyData.eqv (.tuple [.int ((0 : Nat) : Int), .none]) (.tuple [.int 0, .none]) = true := by simp [PyData.eqv, PyData.eqvAll]
/-! the long list of written texts, kept closed -/
def oddL : List Expr := match (defBody s_law) with
  | .For _ _ b _ _ :: _ => (match b with
    | _ :: _ :: .Assign _ (.List es _) _ :: _ => es
    | _ => [])
  | _ => []
abbrev Kx := Str × Nat × Pos
def mkK (k : Kx) : Expr := .Constant (.str k.1) k.2.1 k.2.2
def unK : Expr → Kx
  | .Constant (.str s) j p => (s, j, p)
  | _ => ("", 0, ⟨0, 0, 0, 0⟩)
def lastE : Expr := oddL.getD 13 (.Constant (.str "") 0 ⟨0, 0, 0, 0⟩)
def e2L : List Expr := match (defBody s_law) with
  | .For _ _ b _ _ :: _ => (match b with
    | _ :: _ :: _ :: .Assign _ (.BinOp _ _ (.List es _) _) _ :: _ => es
    | _ => [])
  | _ => []
theorem e2_form : ∃ (n1 n2 : Int), n1 = 20000 ∧ n2 = 6600 ∧ ∃ (p1 p2 p3 p4 p5 p6 p7 p8 p9 p10 p11 p12 : Pos), e2L = [.BinOp (.Name "_law_text" p1) .Add (.Constant (.str "\n") 0 p2) p3, .BinOp (.Constant (.str "c") 0 p4) .Mult (.Constant (.int n1) 0 p5) p6,
    .BinOp (.Constant (.str "l:") 0 p7) .Add (.BinOp (.Constant (.str "ab,") 0 p8) .Mult (.Constant (.int n2) 0 p9) p10) p11, .Constant (.str "c:ab,bc,ac") 0 p12] := ⟨20000, 6600, rfl, rfl, _, _, _, _, _, _, _, _, _, _, _, _, rfl⟩
theorem odd_ks : ∃ ks : List Kx, oddL = ks.map mkK ++ [lastE] ∧ ks.length = 13 ∧ ∀ k ∈ ks, k.1.length ≤ 30000 := ⟨(oddL.take 13).map unK, rfl, by decide +kernel, by decide +kernel⟩
theorem wa_strs {X : Cx} {Y : WY} {ρ : Rho} {last : Expr} : ∀ (ks : List Kx) {R : List Rv → Rho → Prop}, WA X Y [last] ρ (fun rs ρ' => R (ks.map (fun k => Rv.d (.str k.1)) ++ rs) ρ') → WA X Y (ks.map mkK ++ [last]) ρ R
  | [], _, h => h
  | (s, j, p) :: ks, R, h => wa_cons (e := .Constant (.str s) j p) (es := ks.map mkK ++ [last]) rfl (we_str (wa_strs ks (R := fun xs ρ2 => Cur ρ ρ2 (Rv.d (.str s)) ∧ R (.d (.str s) :: xs) ρ2) (fun σ H B Q Wx tk rl q x => h σ H B Q Wx tk rl (fun vs rs B' ρ' H' g r' vo ap y => q vs rs B' ρ' H' g r' vo ap ⟨trivial, y⟩) x)))
section
variable {P : Program} {w : World} {K : PySem.W.Frag} {mg : Str → Option Value} {base : Heap}
theorem ok_law (M : NoSh mg) (DCup : Df P w K mg base 1 "_law_cup" ["_law_cell"] spCup) (DSip : Df P w K mg base 1 "_law_sip" ["_law_cup_here", "_law_many"] spSip) (DWeb : Df P w K mg base 2 "_law_web" ["_law_cup_here", "_law_many"] spLWeb)
    (DWr : Df P w K mg base 1 "_law_written" ["_law_web_here"] spWr) (DBent : Df P w K mg base 2 "_law_bent" ["_law_cup_here", "_law_text"] spBent) (DTold : Df P w K mg base 6 "_law_told" ["_law_value"] spLTold) (DRead : Df P w K mg base 2 "_law_read" ["_law_text"] spRead)
    {f : Addr} {fd : FuncData} (F : L2.Fun K "law" "law" s_law f fd) : FnB P w K mg base 8 f fd ["_law_script"] (spLaw 63) := by
  refine def_ok (k := 7) F sc_law (fun as R Y ⟨_, e, _⟩ => by rw [e]; rfl) fun cdv A outer s H E hr hg as R Y ⟨ns, e, hns, hR⟩ => ?_
  subst e
  have I : InD (cxOf (L2.CX P w) P w K mg base ["_law_script", "_law_cell", "_law_cup_here", "_law_text", "_law_odd", "_law_value"] "law" (defScope s_law) f cdv A outer s H E) P w K mg base 7 := ⟨rfl, rfl, rfl, rfl, rfl, hr, hg⟩
  have nd := sc_law.nd
  refine ws_cons ?_
  refine w1_forL (g := fun _ => gName 1) (passes_of rfl) rfl (pg_name nd rfl (by first | exact Or.inl rfl | exact Or.inr rfl)) (tg_name 1) (fun _ => rfl) ?_
  refine we_cat ?_
  refine we_lst ?_
  refine wa_cons rfl ?_
  refine we_int ?_
  refine wa_nil ?_
  refine ⟨(by first | trivial | exact fun p h => h), ?_⟩
  refine ⟨nb_of ⟨trivial, trivial⟩, Nat.le_of_ble_eq_true rfl, ?_⟩
  refine we_slice sl_list oS_lst ?_
  refine we_var 0 _ rfl (by first | exact Or.inl rfl | exact Or.inr (Or.inl rfl) | exact Or.inr (Or.inr rfl)) (by decide) (by decide) rfl ?_
  refine we_int ?_
  refine ⟨5, rfl, ?_⟩
  refine ⟨(by first | trivial | exact fun p h => h), _, (.lst _ _ _), ?_⟩
  have hcl := cutD_len (intsD ns) none (some 5)
  have hil : (intsD ns).length = ns.length := by unfold intsD; rw [List.length_map]
  refine ⟨(by first | trivial | exact fun p h => h), _, _, rfl, rfl, small (by simp only [List.length_map, List.length_cons, List.length_nil]; omega), ?_⟩
  refine ⟨trivial, _, rfl, fun i ρ => ∃ s1 s2 s3 s4 s5, ρ = [.dat (.list (intsD ns)), s1, s2, s3, s4, s5], ⟨_, _, _, _, _, rfl⟩, fun i d ρ hd ⟨s1, s2, s3, s4, s5, e⟩ => ?_, fun ρ ⟨s1, s2, s3, s4, s5, e⟩ => ?_⟩
  · subst e
    obtain ⟨c, rfl⟩ : ∃ c, d = .int c := by
      rcases List.mem_append.mp (List.mem_of_getElem? hd) with hm | hm
      · exact ⟨_, List.mem_singleton.mp hm⟩
      · obtain ⟨c, _, e⟩ := List.mem_map.mp (show d ∈ ns.map PyData.int from cutD_mem hm)
        exact ⟨c, e.symm⟩
    refine ⟨_, rfl, ?_⟩
    refine ws_cons ?_
    refine w1_set 2 nd rfl (by first | exact Or.inl rfl | exact Or.inr rfl) rfl (by first | exact Or.inl rfl | exact Or.inr rfl) ?_
    refine we_call (Df.cal DCup (InD.mono I (by omega))) .nil (drs := []) (fun _ _ => DpAll.nil) rfl (by decide) rfl rfl ?_
    refine wa_cons rfl ?_
    refine we_var 1 _ rfl (by first | exact Or.inl rfl | exact Or.inr (Or.inl rfl) | exact Or.inr (Or.inr rfl)) (by decide) (by decide) rfl ?_
    refine wa_nil ?_
    refine ⟨(by first | trivial | exact fun p h => h), ?_⟩
    refine ⟨nb_of ⟨trivial, trivial⟩, ?_⟩
    refine ⟨c, rfl, fun cs hc => ?_⟩
    intro q hq
    refine ws_cons ?_
    refine w1_set 3 nd rfl (by first | exact Or.inl rfl | exact Or.inr rfl) rfl (by first | exact Or.inl rfl | exact Or.inr rfl) ?_
    refine we_call (Df.cal DWr (InD.mono I (by omega))) .nil (drs := []) (fun _ _ => DpAll.nil) rfl (by decide) rfl rfl ?_
    refine wa_cons rfl ?_
    refine we_callE (i := 2) (Df.cal DWeb (InD.mono I (by omega))) rfl (by decide) rfl (by first | exact Or.inl rfl | exact Or.inr (Or.inl rfl) | exact Or.inr (Or.inr rfl)) (by decide) (by decide) rfl rfl rfl rfl ?_
    refine we_op2 op_addA o2_add ?_
    refine we_int ?_
    refine we_callE (i := 2) (Df.cal DSip (InD.mono I (by omega))) rfl (by decide) rfl (by first | exact Or.inl rfl | exact Or.inr (Or.inl rfl) | exact Or.inr (Or.inr rfl)) (by decide) (by decide) rfl rfl rfl rfl ?_
    refine we_ix ix_seq o2_ix (fun _ _ => rfl) ?_
    refine we_lst ?_
    refine wa_cons rfl ?_
    refine we_int ?_
    refine wa_cons rfl ?_
    refine we_int ?_
    refine wa_nil ?_
    refine ⟨(by first | trivial | exact fun p h => h), (by first | trivial | exact fun p h => h), ?_⟩
    refine ⟨nb_of ⟨trivial, trivial, trivial⟩, Nat.le_of_ble_eq_true rfl, ?_⟩
    refine we_callC (Df.cal DSip (InD.mono I (by omega))) .nil (drs := []) (fun _ _ => DpAll.nil) rfl (by decide) rfl rfl ?_
    refine wa_cons rfl ?_
    refine we_bor 2 _ _ rfl (by first | exact Or.inl rfl | exact Or.inr (Or.inl rfl) | exact Or.inr (Or.inr rfl)) (by decide) (by decide) rfl ?_
    refine wa_cons rfl ?_
    refine we_int ?_
    refine wa_nil ?_
    refine ⟨(by first | trivial | exact fun p h => h), (by first | trivial | exact fun p h => h), ?_⟩
    refine ⟨2, q, cs, [.d (.int 2)], rfl, nb_of ⟨trivial, trivial⟩, rfl, ?_⟩
    refine ⟨q, cs, 2, rfl, hc, by omega, by omega, fun cs k hc k0 k1 => ⟨cs, _, rfl, ?_⟩⟩
    obtain ⟨a, ha, a0, a1⟩ := two_at k0 k1
    refine ⟨(by first | trivial | exact fun p h => h), _, (.lst _ _ (.int a) ha), ?_⟩
    refine ⟨trivial, cs, rfl, ?_⟩
    refine ⟨q, cs, a, rfl, hc, a0, by omega, fun cs k hc k0 k1 => ⟨cs, _, rfl, ?_⟩⟩
    refine ⟨(by first | trivial | exact fun p h => h), _, (.int _ _), ?_⟩
    refine ⟨trivial, cs, rfl, ?_⟩
    refine ⟨q, cs, 1 + k, rfl, hc, by omega, by omega, fun cs ts hc hw => ⟨cs, _, rfl, ?_⟩⟩
    refine wa_nil ?_
    refine ⟨(by first | trivial | exact fun p h => h), ?_⟩
    refine ⟨nb_of ⟨trivial, trivial⟩, ?_⟩
    refine ⟨1 + k, ts, rfl, by omega, by omega, hw, ?_⟩
    have hn := hw.len (by omega)
    have hzl := webL_len (1 + k) ts
    obtain ⟨z, hz⟩ : ∃ z, z = S (webL (1 + k) ts) := ⟨_, rfl⟩
    have hzl : z.length ≤ 500 := by rw [hz, S_len]; omega
    rw [← hz]
    have hcom : (z ++ ("," : Str)).length ≤ 600 := by rw [app_len, S_com, S_len]; show z.length + 1 ≤ 600; omega
    have hnl : (z ++ ("\n" : Str)).length ≤ 600 := by rw [app_len, show ("\n" : Str).length = 1 by decide +kernel]; omega
    obtain ⟨n1, n2, hn1, hn2, p1, p2, p3, p4, p5, p6, p7, p8, p9, p10, p11, p12, he2⟩ := e2_form
    obtain ⟨y1, hy1, hs1⟩ := sm1 hn1
    obtain ⟨y2, hy2, hs2⟩ := sm2 hn2
    have hl2 : (("l:" : Str) ++ y2).length ≤ 20000 := by rw [app_len, show ("l:" : Str).length = 2 by decide +kernel]; omega
    obtain ⟨ks, hks, hkl, hks0⟩ := odd_ks
    refine ws_cons ?_
    change W1 _ _ (.Assign [.Name _ _] (.List oddL _) _) _ _
    rw [hks]
    refine w1_set 4 nd rfl (by first | exact Or.inl rfl | exact Or.inr rfl) rfl (by first | exact Or.inl rfl | exact Or.inr rfl) ?_
    refine we_lst ?_
    refine wa_strs ks ?_
    change WA _ _ [.BinOp _ _ _ _] _ _
    refine wa_cons rfl ?_
    refine we_op2 op_addA o2_add ?_
    refine we_var 3 _ rfl (by first | exact Or.inl rfl | exact Or.inr (Or.inl rfl) | exact Or.inr (Or.inr rfl)) (by decide) (by decide) rfl ?_
    refine we_str ?_
    refine ⟨(by first | trivial | exact fun p h => h), _, (.str _ _ (small (by rw [← app_len]; omega))), ?_⟩
    refine wa_nil ?_
    refine ⟨(by first | trivial | exact fun p h => h), ?_⟩
    refine ⟨fun r hr => ?_, by simp [hkl], ?_⟩
    · rcases List.mem_append.mp hr with hr | hr
      · obtain ⟨k, _, rfl⟩ := List.mem_map.mp hr
        trivial
      · rw [List.mem_singleton.mp hr]
        trivial
    have hodd : ∀ d ∈ (ks.map (fun k => Rv.d (.str k.1)) ++ [Rv.d (.str (z ++ ("," : Str)))]).map Rv.dt, Sm d := fun d hd => by
      obtain ⟨r, hr, rfl⟩ := List.mem_map.mp hd
      rcases List.mem_append.mp hr with hr | hr
      · obtain ⟨k, hk, rfl⟩ := List.mem_map.mp hr
        exact sm _ (hks0 k hk)
      · rw [List.mem_singleton.mp hr]
        exact sm _ (by omega)
    have hoddl : ((ks.map (fun k => Rv.d (.str k.1)) ++ [Rv.d (.str (z ++ ("," : Str)))]).map Rv.dt).length = 14 := by simp [hkl]
    generalize (ks.map (fun k => Rv.d (.str k.1)) ++ [Rv.d (.str (z ++ ("," : Str)))]).map Rv.dt = odd at hodd hoddl
    intro q4 hq4
    refine ws_cons ?_
    change W1 _ _ (.Assign [.Name _ _] (.BinOp (.Name _ _) .Add (.List e2L _) _) _) _ _
    rw [he2]
    refine w1_set 4 nd rfl (by first | exact Or.inl rfl | exact Or.inr rfl) rfl (by first | exact Or.inl rfl | exact Or.inr rfl) ?_
    refine we_cat ?_
    refine we_bor 4 _ _ rfl (by first | exact Or.inl rfl | exact Or.inr (Or.inl rfl) | exact Or.inr (Or.inr rfl)) (by decide) (by decide) rfl ?_
    refine we_lst ?_
    refine wa_cons rfl ?_
    refine we_op2 op_addA o2_add ?_
    refine we_var 3 _ rfl (by first | exact Or.inl rfl | exact Or.inr (Or.inl rfl) | exact Or.inr (Or.inr rfl)) (by decide) (by decide) rfl ?_
    refine we_str ?_
    refine ⟨(by first | trivial | exact fun p h => h), _, (.str _ _ (small (by rw [← app_len]; omega))), ?_⟩
    refine wa_cons rfl ?_
    refine we_op2 op_mulS o2_mulS ?_
    refine we_str ?_
    refine we_int ?_
    refine ⟨(by first | trivial | exact fun p h => h), _, hs1, ?_⟩
    refine wa_cons rfl ?_
    refine we_op2 op_addA o2_add ?_
    refine we_str ?_
    refine we_op2 op_mulS o2_mulS ?_
    refine we_str ?_
    refine we_int ?_
    refine ⟨(by first | trivial | exact fun p h => h), _, hs2, ?_⟩
    refine ⟨(by first | trivial | exact fun p h => h), _, (.str _ _ (small (by rw [← app_len]; omega))), ?_⟩
    refine wa_cons rfl ?_
    refine we_str ?_
    refine wa_nil ?_
    refine ⟨(by first | trivial | exact fun p h => h), (by first | trivial | exact fun p h => h), (by first | trivial | exact fun p h => h), (by first | trivial | exact fun p h => h), ?_⟩
    refine ⟨nb_of ⟨trivial, trivial, trivial, trivial, trivial⟩, Nat.le_of_ble_eq_true rfl, ?_⟩
    refine ⟨(by first | trivial | exact fun p h => h), _, _, rfl, rfl, small (by rw [hoddl]; exact Nat.le_of_ble_eq_true rfl), ?_⟩
    intro q5 hq5
    have hall : ∀ d ∈ odd ++ List.map Rv.dt [Rv.d (.str (z ++ ("\n" : Str))), Rv.d (.str y1), Rv.d (.str (("l:" : Str) ++ y2)), Rv.d (.str "c:ab,bc,ac")], Sm d := fun d hd => by
      rcases List.mem_append.mp hd with hd | hd
      · exact hodd d hd
      · have hd : d ∈ [PyData.str (z ++ ("\n" : Str)), .str y1, .str (("l:" : Str) ++ y2), .str "c:ab,bc,ac"] := hd
        simp only [List.mem_cons, List.not_mem_nil, or_false] at hd
        rcases hd with rfl | rfl | rfl | rfl
        · exact sm _ (by omega)
        · exact sm _ (by omega)
        · exact sm _ (by omega)
        · exact sm _ (by decide +kernel)
    have hallL : (odd ++ List.map Rv.dt [Rv.d (.str (z ++ ("\n" : Str))), Rv.d (.str y1), Rv.d (.str (("l:" : Str) ++ y2)), Rv.d (.str "c:ab,bc,ac")]).length = 18 := by
      rw [List.length_append, hoddl]
      rfl
    refine ws_cons ?_
    refine w1_forL (g := fun _ => gName 5) (passes_of rfl) rfl (pg_name nd rfl (by first | exact Or.inl rfl | exact Or.inr rfl)) (tg_name 5) (fun _ => rfl) ?_
    refine we_lst ?_
    refine wa_cons rfl ?_
    refine we_var 3 _ rfl (by first | exact Or.inl rfl | exact Or.inr (Or.inl rfl) | exact Or.inr (Or.inr rfl)) (by decide) (by decide) rfl ?_
    refine wa_cons rfl ?_
    refine we_callC (Df.cal DBent (InD.mono I (by omega))) .nil (drs := []) (fun _ _ => DpAll.nil) rfl (by decide) rfl rfl ?_
    refine wa_cons rfl ?_
    refine we_bor 2 _ _ rfl (by first | exact Or.inl rfl | exact Or.inr (Or.inl rfl) | exact Or.inr (Or.inr rfl)) (by decide) (by decide) rfl ?_
    refine wa_cons rfl ?_
    refine we_var 3 _ rfl (by first | exact Or.inl rfl | exact Or.inr (Or.inl rfl) | exact Or.inr (Or.inr rfl)) (by decide) (by decide) rfl ?_
    refine wa_nil ?_
    refine ⟨(by first | trivial | exact fun p h => h), (by first | trivial | exact fun p h => h), ?_⟩
    refine ⟨2, q, cs, [.d (.str z)], rfl, nb_of ⟨trivial, trivial⟩, rfl, ?_⟩
    refine ⟨q, cs, z, rfl, hc, hzl, fun cs z1 hc hz1 => ⟨cs, _, rfl, ?_⟩⟩
    refine wa_cons rfl ?_
    refine we_callC (Df.cal DBent (InD.mono I (by omega))) .nil (drs := []) (fun _ _ => DpAll.nil) rfl (by decide) rfl rfl ?_
    refine wa_cons rfl ?_
    refine we_bor 2 _ _ rfl (by first | exact Or.inl rfl | exact Or.inr (Or.inl rfl) | exact Or.inr (Or.inr rfl)) (by decide) (by decide) rfl ?_
    refine wa_cons rfl ?_
    refine we_var 3 _ rfl (by first | exact Or.inl rfl | exact Or.inr (Or.inl rfl) | exact Or.inr (Or.inr rfl)) (by decide) (by decide) rfl ?_
    refine wa_nil ?_
    refine ⟨(by first | trivial | exact fun p h => h), (by first | trivial | exact fun p h => h), ?_⟩
    refine ⟨2, q, cs, [.d (.str z)], rfl, nb_of ⟨trivial, trivial⟩, rfl, ?_⟩
    refine ⟨q, cs, z, rfl, hc, hzl, fun cs z2 hc hz2 => ⟨cs, _, rfl, ?_⟩⟩
    refine wa_cons rfl ?_
    refine we_ix ix_seq o2_ix (fun _ _ => rfl) ?_
    refine we_bor 4 _ _ rfl (by first | exact Or.inl rfl | exact Or.inr (Or.inl rfl) | exact Or.inr (Or.inr rfl)) (by decide) (by decide) rfl ?_
    refine we_callC (Df.cal DSip (InD.mono I (by omega))) .nil (drs := []) (fun _ _ => DpAll.nil) rfl (by decide) rfl rfl ?_
    refine wa_cons rfl ?_
    refine we_bor 2 _ _ rfl (by first | exact Or.inl rfl | exact Or.inr (Or.inl rfl) | exact Or.inr (Or.inr rfl)) (by decide) (by decide) rfl ?_
    refine wa_cons rfl ?_
    refine we_int ?_
    refine wa_nil ?_
    refine ⟨(by first | trivial | exact fun p h => h), (by first | trivial | exact fun p h => h), ?_⟩
    refine ⟨2, q, cs, [.d (.int 18)], rfl, nb_of ⟨trivial, trivial⟩, rfl, ?_⟩
    refine ⟨q, cs, 18, rfl, hc, by omega, by omega, fun cs k hc k0 k1 => ⟨cs, _, rfl, ?_⟩⟩
    obtain ⟨d4, hat4, z4, e4, hz4⟩ := at_all (k := k) hall k0 (by rw [hallL]; omega)
    subst e4
    refine ⟨(by first | trivial | exact fun p h => h), _, (.lst _ _ (.str z4) hat4), ?_⟩
    refine wa_nil ?_
    refine ⟨(by first | trivial | exact fun p h => h), (by first | trivial | exact fun p h => h), (by first | trivial | exact fun p h => h), (by first | trivial | exact fun p h => h), ?_⟩
    refine ⟨nb_of ⟨trivial, trivial, trivial, trivial, trivial⟩, Nat.le_of_ble_eq_true rfl, ?_⟩
    refine ⟨trivial, _, rfl, fun i ρ => ∃ cs s4 s5, ρ = [.dat (.list (intsD ns)), .dat (.int c), .own q cs, .dat (.str z), s4, s5], ⟨_, _, _, rfl⟩, fun i d ρ hd ⟨cs, s4, s5, e⟩ => ?_, fun ρ ⟨cs, s4, s5, e⟩ => ?_⟩
    · subst e
      have hsm : Sm d := by
        have hd : d ∈ [PyData.str z, .str z1, .str z2, .str z4] := List.mem_of_getElem? hd
        simp only [List.mem_cons, List.not_mem_nil, or_false] at hd
        rcases hd with rfl | rfl | rfl | rfl
        · exact sm _ (by omega)
        · exact sm _ (by omega)
        · exact sm _ (by omega)
        · exact sm _ hz4
      obtain ⟨zv, rfl, hzv⟩ := hsm
      obtain ⟨xs, rfl⟩ : ∃ xs, zv = S xs := ⟨zv.cps.toList, by cases zv; rfl⟩
      have hxl : xs.length ≤ 90000 := by rw [S_len] at hzv; omega
      have hrep := rep_res hxl
      refine ⟨_, rfl, ?_⟩
      refine ws_cons ?_
      refine w1_if ?_
      refine wt_cmp op_ne o2_neS (nomark _) ?_
      refine we_callB (call_repr (by exact I.g) (by exact room_u64 I.r)) oN_repr rfl (M _ (by decide)) rfl (by decide) (by decide) rfl rfl ?_
      refine wa_cons rfl ?_
      refine we_call (Df.cal DTold (InD.mono I (by omega))) .nil (drs := []) (fun _ _ => DpAll.nil) rfl (by decide) rfl rfl ?_
      refine wa_cons rfl ?_
      refine we_var 5 _ rfl (by first | exact Or.inl rfl | exact Or.inr (Or.inl rfl) | exact Or.inr (Or.inr rfl)) (by decide) (by decide) rfl ?_
      refine wa_nil ?_
      refine ⟨(by first | trivial | exact fun p h => h), ?_⟩
      refine ⟨nb_of ⟨trivial, trivial⟩, ?_⟩
      refine ⟨.str (S xs), rfl, fun h => Bool.noConfusion (show true = false from h), fun ys hys => ?_⟩
      have hys : xs = ys := S_inj (PyData.str.inj hys)
      subst hys
      refine ⟨hxl, ?_⟩
      refine wa_nil ?_
      refine ⟨(by first | trivial | exact fun p h => h), ?_⟩
      refine ⟨_, hrep, ?_⟩
      refine we_callB (call_repr (by exact I.g) (by exact room_u64 I.r)) oN_repr rfl (M _ (by decide)) rfl (by decide) (by decide) rfl rfl ?_
      refine wa_cons rfl ?_
      refine we_call (Df.cal DRead (InD.mono I (by omega))) .nil (drs := []) (fun _ _ => DpAll.nil) rfl (by decide) rfl rfl ?_
      refine wa_cons rfl ?_
      refine we_var 5 _ rfl (by first | exact Or.inl rfl | exact Or.inr (Or.inl rfl) | exact Or.inr (Or.inr rfl)) (by decide) (by decide) rfl ?_
      refine wa_nil ?_
      refine ⟨(by first | trivial | exact fun p h => h), ?_⟩
      refine ⟨nb_of ⟨trivial, trivial⟩, ?_⟩
      refine ⟨xs, rfl, hxl, ?_⟩
      refine wa_nil ?_
      refine ⟨(by first | trivial | exact fun p h => h), ?_⟩
      refine ⟨_, hrep, ?_⟩
      refine ⟨(by first | trivial | exact fun p h => h), _, (.mk _ _), ?_⟩
      refine ⟨fun hb => ?_, fun hb => ?_⟩
      · exact absurd rfl (of_decide_eq_false (not_true' hb))
      · refine ws_nil ?_
        refine ws_nil ?_
        exact ⟨_, _, _, rfl⟩
    · subst e
      refine ws_cons ?_
      refine w1_forL (g := fun _ => gName 5) (passes_of rfl) rfl (pg_name nd rfl (by first | exact Or.inl rfl | exact Or.inr rfl)) (tg_name 5) (fun _ => rfl) ?_
      refine we_lst ?_
      refine wa_cons rfl ?_
      refine we_non ?_
      refine wa_cons rfl ?_
      refine we_int ?_
      refine wa_cons rfl ?_
      refine we_tup (by decide) ?_
      refine wa_cons rfl ?_
      refine we_str ?_
      refine wa_nil ?_
      refine ⟨(by first | trivial | exact fun p h => h), ?_⟩
      refine ⟨nb_of ⟨trivial, trivial⟩, Nat.le_of_ble_eq_true rfl, ?_⟩
      refine wa_cons rfl ?_
      refine we_lst ?_
      refine wa_cons rfl ?_
      refine we_str ?_
      refine wa_nil ?_
      refine ⟨(by first | trivial | exact fun p h => h), ?_⟩
      refine ⟨nb_of ⟨trivial, trivial⟩, Nat.le_of_ble_eq_true rfl, ?_⟩
      refine wa_cons rfl ?_
      refine we_bl ?_
      refine wa_nil ?_
      refine ⟨(by first | trivial | exact fun p h => h), (by first | trivial | exact fun p h => h), (by first | trivial | exact fun p h => h), (by first | trivial | exact fun p h => h), (by first | trivial | exact fun p h => h), ?_⟩
      refine ⟨nb_of ⟨trivial, trivial, trivial, trivial, trivial, trivial⟩, Nat.le_of_ble_eq_true rfl, ?_⟩
      refine ⟨trivial, _, rfl, fun i ρ => ∃ cs s4 s5, ρ = [.dat (.list (intsD ns)), .dat (.int c), .own q cs, .dat (.str z), s4, s5], ⟨_, _, _, rfl⟩, fun i d ρ hd ⟨cs, s4, s5, e⟩ => ?_, fun ρ ⟨cs, s4, s5, e⟩ => ?_⟩
      · subst e
        have hno : isStr d = false := by
          have hd : d ∈ [PyData.none, .int 7, .tuple [.str "a:"], .list [.str "a:"], .bool true] := List.mem_of_getElem? hd
          simp only [List.mem_cons, List.not_mem_nil, or_false] at hd
          rcases hd with rfl | rfl | rfl | rfl | rfl <;> rfl
        refine ⟨_, rfl, ?_⟩
        refine ws_cons ?_
        refine w1_if ?_
        refine wt_cmp (op_neD (by exact room_u64 I.r)) o2_ne (nomark _) ?_
        refine we_call (Df.cal DTold (InD.mono I (by omega))) .nil (drs := []) (fun _ _ => DpAll.nil) rfl (by decide) rfl rfl ?_
        refine wa_cons rfl ?_
        refine we_var 5 _ rfl (by first | exact Or.inl rfl | exact Or.inr (Or.inl rfl) | exact Or.inr (Or.inr rfl)) (by decide) (by decide) rfl ?_
        refine wa_nil ?_
        refine ⟨(by first | trivial | exact fun p h => h), ?_⟩
        refine ⟨nb_of ⟨trivial, trivial⟩, ?_⟩
        refine ⟨d, rfl, fun _ => ?_, fun ys hys => absurd hno (by rw [hys]; exact fun z => Bool.noConfusion (show true = false from z))⟩
        refine we_tup (by decide) ?_
        refine wa_cons rfl ?_
        refine we_int ?_
        refine wa_cons rfl ?_
        refine we_non ?_
        refine wa_nil ?_
        refine ⟨(by first | trivial | exact fun p h => h), (by first | trivial | exact fun p h => h), ?_⟩
        refine ⟨nb_of ⟨trivial, trivial, trivial⟩, Nat.le_of_ble_eq_true rfl, ?_⟩
        refine ⟨(by first | trivial | exact fun p h => h), _, (SNe.of (shp_pn _) (shp_pn _) eqv_0n), ?_⟩
        refine ⟨fun hb => ?_, fun hb => ?_⟩
        · have hb : (!true) = true := hb
          cases hb
        · refine ws_nil ?_
          refine ws_nil ?_
          exact ⟨_, _, _, rfl⟩
      · subst e
        refine ws_nil ?_
        exact ⟨_, _, _, _, _, rfl⟩
  · subst e
    refine ws_cons ?_
    refine w1_ret ?_
    refine we_bl ?_
    refine ⟨_, Back.any (Back.nil), ?_⟩
    exact hR _
end
end K

set_option maxHeartbeats 4000000
namespace K
open PySem PySem.Spec PyProof.Rows L2 Bs
section
variable {P : Program} {w : World} {K : PySem.W.Frag} {mg : Str → Option Value} {base : Heap}
theorem has_mk {h : Heap} {x : Str} {st : Stmt} {ps : List Str} {f : Addr} {oc : Value} {od an : Option Addr} {osl : Array (Option Value)} {kV doc pm cdv ct : Value} (X : K.In h) (G : h.Ns mainGlobals mg)
    (hb : ∀ (kV doc pm : Value) (an : Option Addr) (cdv ct : Value) (us : List Value), us.length = ps.length → bindArgs (PySem.W.fnOf x x (defArgs st) (defBody st) (defScope st) .none kV doc pm an cdv ct) ⟨us, []⟩ = pure (ps.zip us))
    (hk : ∀ (kV doc pm : Value) (an : Option Addr) (cdv ct : Value) (us : List Value), us.length = ps.length → bindArgs (PySem.W.fnOf x x (defArgs st) (defBody st) (defScope st) .none kV doc pm an cdv ct) ⟨[], ps.zip us⟩ = pure (ps.zip us))
    (a : PySem.W.nsIn K mainGlobals x = some (some (.ref f))) (l : K.lookup f = some ⟨oc, od, .func (PySem.W.fnOf x x (defArgs st) (defBody st) (defScope st) .none kV doc pm an cdv ct), osl⟩) (c : PySem.W.codeIn K cdv x = true) (k : PySem.W.keepIn K (.ref f) = true) : Has K mg x st ps :=
  ⟨f, _, fun_mk l c k, PySem.W.mg_of X G a, k, (fun_mk l c k).binds hb, fun s us _ hl => .of_eq (hk kV doc pm an cdv ct us hl)⟩
theorem exm_own {S : Addr} (b : PySem.W.subIn K (.ref S) (.type "BaseException") = some true) (i : PySem.W.isClsIn K S = true) (t : PySem.W.typeIn K (.ref S) = some (.type "type")) (s : PySem.W.subIn K (.ref S) (.ref S) = some true) : PySem.W.exmOne K (.ref S) (.ref S) = some true := by
  have g1 : (PySem.W.subIn K (.ref S) (.type "BaseException") == some true) = true := by
    rw [b]
    rfl
  have i' : (PySem.W.clsIn K S).isSome = true := i
  have g2 : ((PySem.W.clsIn K S).isSome && PySem.W.typeIn K (.ref S) == some (.type "type")) = true := by
    rw [i', t]
    rfl
  unfold PySem.W.exmOne
  rw [if_pos g1]
  exact (if_pos g2).trans s
def nosh : List Str := ["len", "all", "any", "int", "list", "tuple", "range", "zip", "repr", "sum", "min", "max", "str", "sorted", "abs"]
theorem all_mk {l : PySem.W.OpenLaw} {C CP fI cel cda fa f : Addr} {oc : Value} {od an : Option Addr} {osl : Array (Option Value)} {kV doc pm cdv ct : Value} {h : Heap} (X : K.In h) (G : h.Ns mainGlobals mg) (hfa : mg "law" = some (.ref fa)) (T : TyNames K) (zM : ∀ x ∈ nosh, PySem.W.nsIn K mainGlobals x = some none)
    {tL : Tok} (zL : PySem.W.nsIn K mainGlobals "LETTERS" = some (some (.str "abcdefghijkl" tL))) (xa : PySem.W.nsIn K mainGlobals "InvalidText" = some (some (.ref C))) (pa : PySem.W.nsIn K mainGlobals "PairError" = some (some (.ref CP)))
    {nm qn : Str} {NN : Addr} {bs bm : List Value} {sn : List Str} {sub : List Value} {ab : Bool} {col : Option Bool} {dd : Option Addr} {k0 k1 k2 k3 k5 : Option Value} {qual m : Str} {j : Nat} {p0 p1 p2 p3 p4 p5 q0 q1 q2 q3 pa0 pa1 : Pos} {oc1 ccl dcl kV1 doc1 pm1 ct1 : Value} {od1 ccd dcd an1 : Option Addr} {osl1 ccs dcs : Array (Option Value)} {vs : Array Value} {file : Str} {tf : Tok}
    (xL : K.lookup C = some (excClassObj nm qn C NN bs bm true sn sub ab col dd k0 k1 k2 k3 k5 "ValueError.__new__")) (hbm : PySem.HandSPX.refsVE bm = true)
    (sa : PySem.W.findIn K (.ref C) "__setattr__" = some (some (.builtin "object.__setattr__"))) (ga : PySem.W.findIn K (.ref C) "__getattribute__" = some (some (.builtin "BaseException.__getattribute__"))) (gg : PySem.W.findIn K (.ref C) "__getattr__" = some none) (nb : PySem.W.findIn K (.ref C) "index" = some none)
    (xk : PySem.W.keepIn K (.ref C) = true) (xb : PySem.W.subIn K (.ref C) (.type "BaseException") = some true) (xt : PySem.W.typeIn K (.ref C) = some (.type "type")) (hd : PySem.W.hasDictIn K C = true) (xi : PySem.W.isClsIn K C = true) (xs : PySem.W.subIn K (.ref C) (.ref C) = some true)
    (iC : PySem.W.findIn K (.ref C) "__init__" = some (some (.ref fI))) (tI : PySem.W.typeIn K (.ref fI) = some (.type "function"))
    (lI : K.lookup fI = some ⟨oc1, od1, .func (PySem.W.ksFn "__init__" qual (iArgs "index" pa0 pa1) (iBody m "index" "index" j p0 p1 p2 p3 p4 p5 q0 q1 q2 q3) (iScope "index") .none kV1 doc1 pm1 an1 (.ref cda) ct1 cel), osl1⟩) (cI : PySem.W.codeIn K (.ref cda) qual = true)
    (lcc : K.lookup cel = some ⟨ccl, ccd, .cell (some (.ref C)), ccs⟩) (lcda : K.lookup cda = some ⟨dcl, dcd, .fields vs, dcs⟩) (hvs : vs[2]? = some (.str file tf)) (hfile : ((l.prog.main.file : Str) == file) = true)
    (hsin : PySem.W.ks_superIn K C C "__init__" = some (some (.builtin "ValueError.__init__"))) (hmro : PySem.W.mroIn K C (.ref C) = some true) (hVE : PySem.W.subIn K (.ref C) (.type "ValueError") = some true)
    (hev : ∃ pl : Sem Bool, ∀ L : Addr, eval (.Call (.Attribute (.Call (.Name "super" p0) [] [] p1) "__init__" p2) [.Constant (.str m) j p3] [] p4) (PySem.W.ksEnv qual (iScope "index") L fI (.ref cda) cel) = (do
        let ov ← attributeBase (.Call (.Name "super" p0) [] [] p1) "__init__" (PySem.W.ksEnv qual (iScope "index") L fI (.ref cda) cel) (eval (.Call (.Name "super" p0) [] [] p1) (PySem.W.ksEnv qual (iScope "index") L fI (.ref cda) cel))
        standAt p2.atName
        let (f, first) ← holding [ov] (getMethod ov "__init__" pl)
        callWith p4 f first (backTo p4 (starEach [.Constant (.str m) j p3] (PySem.W.ksEnv qual (iScope "index") L fI (.ref cda) cel))) []))
    (hbind : ∀ e u : Value, bindArgs (PySem.W.ksFn "__init__" qual (iArgs "index" pa0 pa1) (iBody m "index" "index" j p0 p1 p2 p3 p4 p5 q0 q1 q2 q3) (iScope "index") .none kV1 doc1 pm1 an1 (.ref cda) ct1 cel) ⟨[e, u], []⟩ = pure [(("self" : Str), e), ("index", u)])
    (htop : (l.prog.main.scope.names.lookup ("super" : Str)).isSome = false) (hsup : PySem.W.nsIn K mainGlobals "super" = some none) (hany : PySem.W.nsIn K cStatics "thirdparty.any" = some none)
    (His_text : Has K mg "is_text" s_is_text ["value"])
    (Hweb_told : Has K mg "web_told" s_web_told ["text"])
    (H_possible_ties : Has K mg "_possible_ties" s_possible_ties ["n"])
    (H_told_ties : Has K mg "_told_ties" s_told_ties ["text", "start", "left"])
    (H_told_tie : Has K mg "_told_tie" s_told_tie ["text", "at", "left"])
    (H_law_cup : Has K mg "_law_cup" s_law_cup ["_law_cell"])
    (H_law_sip : Has K mg "_law_sip" s_law_sip ["_law_cup_here", "_law_many"])
    (H_law_web : Has K mg "_law_web" s_law_web ["_law_cup_here", "_law_many"])
    (H_law_ahead : Has K mg "_law_ahead" s_law_ahead ["_law_many", "_law_ties", "_law_first"])
    (H_law_read : Has K mg "_law_read" s_law_read ["_law_text"])
    (H_law_written : Has K mg "_law_written" s_law_written ["_law_web_here"])
    (H_law_bent : Has K mg "_law_bent" s_law_bent ["_law_cup_here", "_law_text"])
    (H_law_told : Has K mg "_law_told" s_law_told ["_law_value"])
    (a : PySem.W.nsIn K mainGlobals "law" = some (some (.ref f))) (lk : K.lookup f = some ⟨oc, od, .func (PySem.W.fnOf "law" "law" (defArgs s_law) (defBody s_law) (defScope s_law) .none kV doc pm an cdv ct), osl⟩) (cc : PySem.W.codeIn K cdv "law" = true) (kp : PySem.W.keepIn K (.ref f) = true) :
    ∃ fd : FuncData, (∀ (s : Shared) (u : Value), BindsTo s fd ⟨[u], []⟩ [("_law_script", u)]) ∧ ∀ base : Heap, K.In base → base.Ns mainGlobals mg → FnB l.prog w K mg base 8 fa fd ["_law_script"] (spLaw 63) := by
  have e := hfa.symm.trans (PySem.W.mg_of X G a)
  cases e
  have F := fun_mk (st := s_law) lk cc kp
  have M : NoSh mg := fun x hx => PySem.W.mg_none_of X G (zM x hx)
  have hL : ∃ t, mg "LETTERS" = some (.str "abcdefghijkl" t) := ⟨tL, PySem.W.mg_of X G zL⟩
  have XF : ExF l.prog K mg "InvalidText" C "index" "index" :=
    { gC := PySem.W.mg_of X G xa, T := ⟨⟨nm, qn, NN, bs, bm, sn, sub, ab, col, dd, k0, k1, k2, k3, k5, xL, hbm⟩, sa, xb, xt, xk⟩, hno := nb, rd := ⟨ga, gg, xb, hd⟩,
      ini := ⟨nm, qn, NN, bs, bm, sn, sub, ab, col, dd, k0, k1, k2, k3, k5, fI, cel, cda, qual, m, j, p0, p1, p2, p3, p4, p5, q0, q1, q2, q3, pa0, pa1, oc1, ccl, dcl, kV1, doc1, pm1, ct1, od1, ccd, dcd, an1, osl1, ccs, dcs, vs, file, tf, xL, hbm, iC, tI, lI, cI, lcc, lcda, hvs, hfile, hsin, hmro, hVE, hev, hbind⟩,
      nms := ⟨by decide +kernel, by decide +kernel, by decide +kernel, by decide +kernel, by decide +kernel, by decide +kernel⟩, htop := htop, hsup := hsup, hany := hany }
  have hP := PySem.W.mg_of X G pa
  have hx := exm_own xb xi xt xs
  refine ⟨PySem.W.fnOf "law" "law" (defArgs s_law) (defBody s_law) (defScope s_law) .none kV doc pm an cdv ct, fun s v => .of_eq rfl, fun base _ _ => ?_⟩
  have d1 := ok_is_text (P := l.prog) (w := w) (base := base) T His_text
  have d2 := ok_possible_ties (P := l.prog) (w := w) (base := base) M H_possible_ties
  have d3 := ok_told_tie (w := w) (base := base) XF M hL H_told_tie
  have d4 := ok_told_ties XF M d3 H_told_ties
  have d5 := ok_web_told XF hL d1 d4 d2 Hweb_told
  have d6 := ok_law_cup (P := l.prog) (w := w) (base := base) M H_law_cup
  have d7 := ok_law_sip (P := l.prog) (w := w) (base := base) M H_law_sip
  have d8 := ok_law_web M d7 H_law_web
  have d9 := ok_law_ahead (P := l.prog) (w := w) (base := base) M H_law_ahead
  have d10 := ok_law_read M d9 H_law_read
  have d11 := ok_law_written (P := l.prog) (w := w) (base := base) M H_law_written
  have d12 := ok_law_bent M d7 H_law_bent
  have d13 := ok_law_told XF hP hx d5 H_law_told
  exact ok_law M d6 d7 d8 d11 d12 d13 d10 F
end
end K
open PySem PySem.W PyProof.Rows Bs
set_option maxHeartbeats 0 in
theorem PySem.Challenge.cw_everypairing_k03_where_web_texts_end_holds : PySem.Challenge.rw_everypairing_k03_where_web_texts_end.Holds := by
  w_on; o_law; k_head; (case hw => w_witness2)
  k_fill
  refine Bs.law_walk (l := PySem.Challenge.rw_everypairing_k03_where_web_texts_end) (n := 63) (k := 8) (x := "_law_script") rfl (by decide) rfl ⟨rfl, by decide, by decide⟩ (fun w h Y => PySem.W.kIn_of Y) ?F
  case F =>
    intro w mg fa h KX G hmg
    refine' K.all_mk KX G hmg ?T ?zM ?zL ?xa ?pa ?xL ?hbm ?sa ?ga ?gg ?nb ?xk ?xb ?xt ?hd ?xi ?xs ?iC ?tI ?lI ?cI ?lcc ?lcda ?hvs ?hfile ?hsin ?hmro ?hVE ?hev ?hbind ?htop ?hsup ?hany
      (K.has_mk KX G (fun _ _ _ _ _ _ us hl => match us, hl with | [_], _ => rfl) (fun _ _ _ _ _ _ us hl => match us, hl with | [_], _ => rfl) ?a0 ?l0 ?c0 ?k0)
      (K.has_mk KX G (fun _ _ _ _ _ _ us hl => match us, hl with | [_], _ => rfl) (fun _ _ _ _ _ _ us hl => match us, hl with | [_], _ => rfl) ?a1 ?l1 ?c1 ?k1)
      (K.has_mk KX G (fun _ _ _ _ _ _ us hl => match us, hl with | [_], _ => rfl) (fun _ _ _ _ _ _ us hl => match us, hl with | [_], _ => rfl) ?a2 ?l2 ?c2 ?k2)
      (K.has_mk KX G (fun _ _ _ _ _ _ us hl => match us, hl with | [_, _, _], _ => rfl) (fun _ _ _ _ _ _ us hl => match us, hl with | [_, _, _], _ => rfl) ?a3 ?l3 ?c3 ?k3)
      (K.has_mk KX G (fun _ _ _ _ _ _ us hl => match us, hl with | [_, _, _], _ => rfl) (fun _ _ _ _ _ _ us hl => match us, hl with | [_, _, _], _ => rfl) ?a4 ?l4 ?c4 ?k4)
      (K.has_mk KX G (fun _ _ _ _ _ _ us hl => match us, hl with | [_], _ => rfl) (fun _ _ _ _ _ _ us hl => match us, hl with | [_], _ => rfl) ?a5 ?l5 ?c5 ?k5)
      (K.has_mk KX G (fun _ _ _ _ _ _ us hl => match us, hl with | [_, _], _ => rfl) (fun _ _ _ _ _ _ us hl => match us, hl with | [_, _], _ => rfl) ?a6 ?l6 ?c6 ?k6)
      (K.has_mk KX G (fun _ _ _ _ _ _ us hl => match us, hl with | [_, _], _ => rfl) (fun _ _ _ _ _ _ us hl => match us, hl with | [_, _], _ => rfl) ?a7 ?l7 ?c7 ?k7)
      (K.has_mk KX G (fun _ _ _ _ _ _ us hl => match us, hl with | [_, _, _], _ => rfl) (fun _ _ _ _ _ _ us hl => match us, hl with | [_, _, _], _ => rfl) ?a8 ?l8 ?c8 ?k8)
      (K.has_mk KX G (fun _ _ _ _ _ _ us hl => match us, hl with | [_], _ => rfl) (fun _ _ _ _ _ _ us hl => match us, hl with | [_], _ => rfl) ?a9 ?l9 ?c9 ?k9)
      (K.has_mk KX G (fun _ _ _ _ _ _ us hl => match us, hl with | [_], _ => rfl) (fun _ _ _ _ _ _ us hl => match us, hl with | [_], _ => rfl) ?a10 ?l10 ?c10 ?k10)
      (K.has_mk KX G (fun _ _ _ _ _ _ us hl => match us, hl with | [_, _], _ => rfl) (fun _ _ _ _ _ _ us hl => match us, hl with | [_, _], _ => rfl) ?a11 ?l11 ?c11 ?k11)
      (K.has_mk KX G (fun _ _ _ _ _ _ us hl => match us, hl with | [_], _ => rfl) (fun _ _ _ _ _ _ us hl => match us, hl with | [_], _ => rfl) ?a12 ?l12 ?c12 ?k12)
      ?a ?l ?c ?k
    (case xa => k_is); (case pa => k_is); (case zL => k_is); (case xL => k_is); (case hbm => decide +kernel)
    (case sa => k_is); (case ga => k_is); (case gg => k_is); (case nb => k_is)
    (case xk => k_is); (case xb => k_is); (case xt => k_is); (case hd => k_is); (case xi => k_is); (case xs => first | rfl | k_is)
    (case iC => k_is); (case tI => k_is); (case lI => k_is); (case lcda => k_is); (case cI => k_is); (case lcc => k_is); (case hvs => exact rfl)
    (case hfile => first | exact rfl | decide +kernel); (case hsin => ks_is); (case hmro => k_is); (case hVE => k_is)
    (case hev => exact ⟨_, fun L => rfl⟩); (case hbind => exact fun e u => rfl)
    (case htop => first | exact rfl | decide +kernel); (case hsup => k_is); (case hany => k_is)
    (case T =>
      intro T hT
      simp only [List.mem_cons, List.not_mem_nil, or_false] at hT
      rcases hT with rfl | rfl | rfl | rfl | rfl | rfl <;> k_is)
    (case zM =>
      intro x hx
      simp only [K.nosh, List.mem_cons, List.not_mem_nil, or_false] at hx
      rcases hx with rfl | rfl | rfl | rfl | rfl | rfl | rfl | rfl | rfl | rfl | rfl | rfl | rfl | rfl | rfl <;> k_is)
    (case a0 => k_is); (case l0 => k_is); (case c0 => k_is); (case k0 => k_is)
    (case a1 => k_is); (case l1 => k_is); (case c1 => k_is); (case k1 => k_is)
    (case a2 => k_is); (case l2 => k_is); (case c2 => k_is); (case k2 => k_is)
    (case a3 => k_is); (case l3 => k_is); (case c3 => k_is); (case k3 => k_is)
    (case a4 => k_is); (case l4 => k_is); (case c4 => k_is); (case k4 => k_is)
    (case a5 => k_is); (case l5 => k_is); (case c5 => k_is); (case k5 => k_is)
    (case a6 => k_is); (case l6 => k_is); (case c6 => k_is); (case k6 => k_is)
    (case a7 => k_is); (case l7 => k_is); (case c7 => k_is); (case k7 => k_is)
    (case a8 => k_is); (case l8 => k_is); (case c8 => k_is); (case k8 => k_is)
    (case a9 => k_is); (case l9 => k_is); (case c9 => k_is); (case k9 => k_is)
    (case a10 => k_is); (case l10 => k_is); (case c10 => k_is); (case k10 => k_is)
    (case a11 => k_is); (case l11 => k_is); (case c11 => k_is); (case k11 => k_is)
    (case a12 => k_is); (case l12 => k_is); (case c12 => k_is); (case k12 => k_is)
    (case a => k_is); (case l => k_is); (case c => k_is); (case k => k_is)
