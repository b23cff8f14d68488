import PyProof.Rows.All
import HandS.ForMost
import HandS.IsInst
import HandS.Wide
import HandS.WideMore
import HandS.TupAny
import HandS.Style
import HandS.Deep
import HandS.Flow
import HandS.SetKeys
import HandS.Steps
import HandS.ForExc
import HandS.HeadHook1
import HandS.Lambda
import PyProof.EqKinds
import HandS.Strs
import KE.KEqNest
import PyProof.ReprRoads
import PyProof.ReprReads
import HandS.SetFor
import HandS.Ends
import HandS.TupLe
import HandS.HeadEnd
import HandS.HeadHook2
import HandS.HeadNt
import HandS.Head0
import HandS.Head1
import HandS.Head2
import HandS.Gcd
import HandS.Head3
import PySem.Challenge.RW_askround_k57_fractions
set_option Elab.async false
set_option linter.all false
set_option maxRecDepth 100000
set_option maxHeartbeats 4000000
/-! ### A layer of plain data: what a body does, told as a partial function over trees of data -/
namespace Dl
open PySem PySem.Spec PyProof.Rows L2

def kD : Key → PyData
  | .inl i => .int i
  | .inr x => .str x

/-- an exception of the class of that name (a class of the program's own, without fields), as a tree -/
def excD (c : Str) : PyData := .dict [(.none, .str c)]
def ExZ (C a : Addr) : HO := .ext fun h => ∃ oe : Obj, h.get? a = some oe ∧ Zc (.ref C) none oe ∧ ∃ vs : Array Value, oe.data = .fields vs
mutual
/-- the value v stands for the tree d; nothing of it may be written (mu: what may be) -/
inductive Dt (K : PySem.W.Frag) (mu : Addr → Prop) (H : Hp) : V → PyData → Prop
  | non : Dt K mu H .non .none
  | bl (b : Bool) : Dt K mu H (.bl b) (.bool b)
  | int (i : Int) : Dt K mu H (.int i) (.int i)
  | str (x : Str) : Dt K mu H (.str x) (.str x)
  | lst {a : Addr} {xs : List V} {ds : List PyData} : Rd H a (.lst xs) → ¬ mu a → DtAll K mu H xs ds → Dt K mu H (.ref a) (.list ds)
  | scr {a : Addr} {xs : List V} {ds : List PyData} : (Rd H a (.lst xs) ∧ ¬ mu a) ∨ (∀ H', SqL K H' a xs) → DtAll K mu H xs ds → Dt K mu H (.ref a) (.dict [(.none, .list ds)])
  | tup {a : Addr} {xs : List V} {ds : List PyData} : Rd H a (.tup xs) → ¬ mu a → DtAll K mu H xs ds → Dt K mu H (.ref a) (.tuple ds)
  | tupK {a : Addr} {xs : List V} {ds : List PyData} : (∀ H', SqT K H' a xs) → DtAll K mu H xs ds → Dt K mu H (.ref a) (.tuple ds)
  | dct {a : Addr} {kvs : List (Key × V)} {ds : List (PyData × PyData)} : H a = some (.dK kvs) → ¬ mu a → DtKv K mu H kvs ds → Dt K mu H (.ref a) (.dict ds)
  | exc {a : Addr} {c : Str} : H a = some (ExZ (He.ga K c) a) → ¬ mu a → Dt K mu H (.ref a) (.dict [(.none, .str c)])
inductive DtAll (K : PySem.W.Frag) (mu : Addr → Prop) (H : Hp) : List V → List PyData → Prop
  | nil : DtAll K mu H [] []
  | cons {v : V} {vs : List V} {d : PyData} {ds : List PyData} : Dt K mu H v d → DtAll K mu H vs ds → DtAll K mu H (v :: vs) (d :: ds)
inductive DtKv (K : PySem.W.Frag) (mu : Addr → Prop) (H : Hp) : List (Key × V) → List (PyData × PyData) → Prop
  | nil : DtKv K mu H [] []
  | cons {k : Key} {v : V} {vs : List (Key × V)} {d : PyData} {ds : List (PyData × PyData)} : Dt K mu H v d → DtKv K mu H vs ds → DtKv K mu H ((k, v) :: vs) ((kD k, d) :: ds)
end

/-- what stood and could not be written stands, and can not be written -/
def Kp (mu : Addr → Prop) (H : Hp) (mu' : Addr → Prop) (H' : Hp) : Prop := ∀ a o, H a = some o → ¬ mu a → H' a = some o ∧ ¬ mu' a
theorem Kp.refl (mu : Addr → Prop) (H : Hp) : Kp mu H mu H := fun _ _ h n => ⟨h, n⟩
theorem Kp.trans {m1 m2 m3 : Addr → Prop} {H1 H2 H3 : Hp} (a : Kp m1 H1 m2 H2) (b : Kp m2 H2 m3 H3) : Kp m1 H1 m3 H3 := fun x o h n =>
  let ⟨h2, n2⟩ := a x o h n
  b x o h2 n2
theorem Kp.rd {m1 m2 : Addr → Prop} {H1 H2 : Hp} (k : Kp m1 H1 m2 H2) {a : Addr} {u : HO} (h : Rd H1 a u) (n : ¬ m1 a) : Rd H2 a u ∧ ¬ m2 a := by
  rcases h with h | ⟨o, h⟩
  · exact ⟨.inl (k a _ h n).1, (k a _ h n).2⟩
  · exact ⟨.inr ⟨o, (k a _ h n).1⟩, (k a _ h n).2⟩

section
variable {K : PySem.W.Frag} {mu mu' : Addr → Prop} {H H' : Hp}
mutual
theorem Dt.mono (k : Kp mu H mu' H') : ∀ {v : V} {d : PyData}, Dt K mu H v d → Dt K mu' H' v d
  | _, _, .non => .non
  | _, _, .bl b => .bl b
  | _, _, .int i => .int i
  | _, _, .str x => .str x
  | _, _, .lst h n t => .lst (k.rd h n).1 (k.rd h n).2 (DtAll.mono k t)
  | _, _, .scr h t => .scr (h.elim (fun z => .inl ⟨(k.rd z.1 z.2).1, (k.rd z.1 z.2).2⟩) .inr) (DtAll.mono k t)
  | _, _, .tup h n t => .tup (k.rd h n).1 (k.rd h n).2 (DtAll.mono k t)
  | _, _, .tupK h t => .tupK h (DtAll.mono k t)
  | _, _, .dct h n t => .dct (k _ _ h n).1 (k _ _ h n).2 (DtKv.mono k t)
  | _, _, .exc h n => .exc (k _ _ h n).1 (k _ _ h n).2
theorem DtAll.mono (k : Kp mu H mu' H') : ∀ {vs : List V} {ds : List PyData}, DtAll K mu H vs ds → DtAll K mu' H' vs ds
  | _, _, .nil => .nil
  | _, _, .cons h t => .cons (Dt.mono k h) (DtAll.mono k t)
theorem DtKv.mono (k : Kp mu H mu' H') : ∀ {vs : List (Key × V)} {ds : List (PyData × PyData)}, DtKv K mu H vs ds → DtKv K mu' H' vs ds
  | _, _, .nil => .nil
  | _, _, .cons h t => .cons (Dt.mono k h) (DtKv.mono k t)
end
theorem DtAll.len : ∀ {vs : List V} {ds : List PyData}, DtAll K mu H vs ds → vs.length = ds.length
  | _, _, .nil => rfl
  | _, _, .cons _ t => by rw [List.length_cons, List.length_cons, DtAll.len t]
theorem DtAll.get : ∀ {vs : List V} {ds : List PyData} {i : Nat} {d : PyData}, DtAll K mu H vs ds → ds[i]? = some d → ∃ v, vs[i]? = some v ∧ Dt K mu H v d
  | _, _, _, _, .nil, e => by simp at e
  | _, _, 0, _, .cons h _, e => by simp at e; subst e; exact ⟨_, rfl, h⟩
  | _, _, i + 1, _, .cons _ t, e => by
    obtain ⟨v, h1, h2⟩ := DtAll.get (i := i) t (by simpa using e)
    exact ⟨v, by simpa using h1, h2⟩
theorem DtAll.getv : ∀ {vs : List V} {ds : List PyData} {i : Nat} {v : V}, DtAll K mu H vs ds → vs[i]? = some v → ∃ d, ds[i]? = some d ∧ Dt K mu H v d
  | _, _, _, _, .nil, e => by simp at e
  | _, _, 0, _, .cons h _, e => by simp at e; subst e; exact ⟨_, rfl, h⟩
  | _, _, i + 1, _, .cons _ t, e => by
    obtain ⟨v, h1, h2⟩ := DtAll.getv (i := i) t (by simpa using e)
    exact ⟨v, by simpa using h1, h2⟩
theorem DtAll.append : ∀ {vs ws : List V} {ds es : List PyData}, DtAll K mu H vs ds → DtAll K mu H ws es → DtAll K mu H (vs ++ ws) (ds ++ es)
  | _, _, _, _, .nil, h => h
  | _, _, _, _, .cons h t, k => .cons h (DtAll.append t k)
theorem DtAll.take : ∀ {vs : List V} {ds : List PyData} (n : Nat), DtAll K mu H vs ds → DtAll K mu H (vs.take n) (ds.take n)
  | _, _, 0, _ => by simp; exact .nil
  | _, _, n + 1, .nil => .nil
  | _, _, n + 1, .cons h t => .cons h (DtAll.take n t)
theorem DtAll.drop : ∀ {vs : List V} {ds : List PyData} (n : Nat), DtAll K mu H vs ds → DtAll K mu H (vs.drop n) (ds.drop n)
  | _, _, 0, h => h
  | _, _, n + 1, .nil => .nil
  | _, _, n + 1, .cons h t => DtAll.drop n t
theorem DtAll.rev : ∀ {vs : List V} {ds : List PyData}, DtAll K mu H vs ds → DtAll K mu H vs.reverse ds.reverse
  | _, _, .nil => .nil
  | _, _, .cons h t => by
    rw [List.reverse_cons, List.reverse_cons]
    exact DtAll.append (DtAll.rev t) (.cons h .nil)
theorem DtAll.set {v : V} {d : PyData} (h : Dt K mu H v d) : ∀ {vs : List V} {ds : List PyData} (n : Nat), DtAll K mu H vs ds → DtAll K mu H (vs.set n v) (ds.set n d)
  | _, _, _, .nil => .nil
  | _, _, 0, .cons _ t => .cons h t
  | _, _, n + 1, .cons g t => .cons g (DtAll.set h n t)
theorem Dt.list {v : V} {ds : List PyData} (h : Dt K mu H v (.list ds)) : ∃ a xs, v = .ref a ∧ SqL K H a xs ∧ DtAll K mu H xs ds := by
  cases h with
  | lst h n t => exact ⟨_, _, rfl, .inl h, t⟩
theorem Dt.listR {v : V} {ds : List PyData} (h : Dt K mu H v (.list ds)) : ∃ a xs, v = .ref a ∧ Rd H a (.lst xs) ∧ DtAll K mu H xs ds := by
  cases h with
  | lst h n t => exact ⟨_, _, rfl, h, t⟩
theorem kD_none (k : Key) : kD k ≠ .none := by cases k <;> intro h <;> cases h
/-- the script -/
theorem Dt.script {v : V} {ds : List PyData} (h : Dt K mu H v (.dict [(.none, .list ds)])) : ∃ a xs, v = .ref a ∧ SqL K H a xs ∧ DtAll K mu H xs ds := by
  generalize e : PyData.dict [(.none, .list ds)] = d at h
  cases h with
  | scr h t =>
    cases e
    exact ⟨_, _, rfl, h.elim (fun z => .inl z.1) fun z => z H, t⟩
  | dct h n t =>
    cases e
    generalize e2 : [(PyData.none, PyData.list ds)] = kds at t
    cases t with
    | nil => cases e2
    | @cons k v vs d ds t1 t2 =>
      exact absurd (Prod.mk.inj (List.cons.inj e2).1).1.symm (kD_none k)
  | _ => cases e
/-- a dict that is one -/
def realD : List (PyData × PyData) → Bool
  | (.none, _) :: _ => false
  | _ => true
theorem Dt.real {v : V} {kvs : List (PyData × PyData)} (h : Dt K mu H v (.dict kvs)) (r : realD kvs = true) : ∃ a xs, v = .ref a ∧ H a = some (.dK xs) ∧ DtKv K mu H xs kvs := by
  cases h with
  | scr h t => cases r
  | dct h n t => exact ⟨_, _, rfl, h, t⟩
  | exc h n => cases r
theorem Dt.tuple {v : V} {ds : List PyData} (h : Dt K mu H v (.tuple ds)) : ∃ a xs, v = .ref a ∧ SqT K H a xs ∧ DtAll K mu H xs ds := by
  cases h with
  | tup h n t => exact ⟨_, _, rfl, .inl h, t⟩
  | tupK h t => exact ⟨_, _, rfl, h H, t⟩
theorem Dt.inti {v : V} {i : Int} (h : Dt K mu H v (.int i)) : v = .int i := by cases h; rfl
theorem Dt.bool {v : V} {b : Bool} (h : Dt K mu H v (.bool b)) : v = .bl b := by cases h; rfl
theorem Dt.text {v : V} {x : Str} (h : Dt K mu H v (.str x)) : v = .str x := by cases h; rfl
theorem Dt.none_ {v : V} (h : Dt K mu H v .none) : v = .non := by cases h; rfl
theorem DtAll.ints : ∀ {vs : List V} {ns : List Int}, DtAll K mu H vs (ns.map .int) → vs = ns.map V.int
  | _, [], .nil => rfl
  | _, n :: r, .cons h t => by
    have e := h.inti
    have e2 := DtAll.ints t
    subst e e2
    rfl
theorem DtAll.texts : ∀ {vs : List V} {ns : List Str}, DtAll K mu H vs (ns.map .str) → vs = ns.map V.str
  | _, [], .nil => rfl
  | _, n :: r, .cons h t => by
    have e := h.text
    have e2 := DtAll.texts t
    subst e e2
    rfl
theorem DtAll.bools : ∀ {vs : List V} {ns : List Bool}, DtAll K mu H vs (ns.map .bool) → vs = ns.map V.bl
  | _, [], .nil => rfl
  | _, n :: r, .cons h t => by
    have e := h.bool
    have e2 := DtAll.bools t
    subst e e2
    rfl
theorem dtAll_ints : ∀ ns : List Int, DtAll K mu H (ns.map V.int) (ns.map .int)
  | [] => .nil
  | n :: r => .cons (.int n) (dtAll_ints r)
theorem dtAll_texts : ∀ ns : List Str, DtAll K mu H (ns.map V.str) (ns.map .str)
  | [] => .nil
  | n :: r => .cons (.str n) (dtAll_texts r)
theorem dtAll_bools : ∀ ns : List Bool, DtAll K mu H (ns.map V.bl) (ns.map .bool)
  | [] => .nil
  | n :: r => .cons (.bl n) (dtAll_bools r)
end

/-! ### a body's names: data, a list of its own that it fills, the list that was handed in to be changed, nothing -/
inductive SV where
  | dat (d : PyData) | own (ds : List PyData) | pot (ds : List PyData) | no | tab (q : Str)
abbrev Sl := List SV
/-- what is fixed through a body: the heap at its entry, the address of the list that may be changed -/
structure Par where
  H0 : Hp
  p : Option Addr
  m0 : Addr → Prop
def Mu (Z : Par) (M : List Addr) : Addr → Prop := fun a => Z.m0 a ∨ Z.p = some a ∨ a ∈ M

/-- .. through an expression or a statement: all that stood stands, but the list handed in and the names' own -/
def Kq (Z : Par) (M : List Addr) (H : Hp) (M' : List Addr) (H' : Hp) : Prop := ∀ a o, H a = some o → Z.p ≠ some a → a ∉ M → H' a = some o ∧ a ∉ M'
theorem Kq.kp {Z : Par} {M M' : List Addr} {H H' : Hp} (k : Kq Z M H M' H') : Kp (Mu Z M) H (Mu Z M') H' := fun a o h n =>
  let ⟨h1, h2⟩ := k a o h (fun z => n (.inr (.inl z))) (fun z => n (.inr (.inr z)))
  ⟨h1, fun q => q.elim (fun z => n (.inl z)) fun q => q.elim (fun z => n (.inr (.inl z))) h2⟩
theorem Kq.refl (Z : Par) (M : List Addr) (H : Hp) : Kq Z M H M H := fun _ _ h _ n => ⟨h, n⟩
theorem Kq.trans {Z : Par} {M1 M2 M3 : List Addr} {H1 H2 H3 : Hp} (a : Kq Z M1 H1 M2 H2) (b : Kq Z M2 H2 M3 H3) : Kq Z M1 H1 M3 H3 := fun x o h p n =>
  let ⟨h2, n2⟩ := a x o h p n
  b x o h2 p n2
theorem kq_grow {Z : Par} {M : List Addr} {H H' : Hp} (g : ∀ a o, H a = some o → H' a = some o) : Kq Z M H M H' := fun a o e _ n => ⟨g a o e, n⟩

inductive SlAll (K : PySem.W.Frag) (mu : Addr → Prop) (p : Option Addr) (H : Hp) : L2.St → Sl → List Addr → Prop
  | nil : SlAll K mu p H [] [] []
  | dat {v : V} {d : PyData} {σ : L2.St} {s : Sl} {M : List Addr} : Dt K mu H v d → SlAll K mu p H σ s M → SlAll K mu p H (some v :: σ) (.dat d :: s) M
  | no {x : Option V} {σ : L2.St} {s : Sl} {M : List Addr} : SlAll K mu p H σ s M → SlAll K mu p H (x :: σ) (.no :: s) M
  | own {a : Addr} {xs : List V} {ds : List PyData} {σ : L2.St} {s : Sl} {M : List Addr} : H a = some (.lst xs) → DtAll K mu H xs ds → a ∉ M → SlAll K mu p H σ s M → SlAll K mu p H (some (.ref a) :: σ) (.own ds :: s) (a :: M)
  | pot {a : Addr} {xs : List V} {ds : List PyData} {σ : L2.St} {s : Sl} {M : List Addr} : p = some a → H a = some (.lst xs) → DtAll K mu H xs ds → SlAll K mu p H σ s M → SlAll K mu p H (some (.ref a) :: σ) (.pot ds :: s) M
  | tab {x : Option V} {a : Addr} {ps : Array Value} {q : Str} {σ : L2.St} {s : Sl} {M : List Addr} : p = some a → H a = some (.tbl ps) → TriplesOk ps.toList → (∀ (pos : Pos) (cv : Value), codeAmong pos ps.toList = some cv → ∃ c, cv = .ref c ∧ H c = some (LamX.CodeO c q) ∧ ¬ mu c) → SlAll K mu p H σ s M → SlAll K mu p H (x :: σ) (.tab q :: s) M

structure Rel (K : PySem.W.Frag) (Z : Par) (M : List Addr) (σ : L2.St) (H : Hp) (s : Sl) : Prop where
  base : ∀ a o, Z.H0 a = some o → Z.p ≠ some a → H a = some o
  fr : ∀ a ∈ M, Z.H0 a = none ∧ Z.p ≠ some a ∧ ¬ Z.m0 a ∧ ∃ o, H a = some o
  mz : ∀ a, Z.m0 a → ∃ o, H a = some o
  pt : ∀ a, Z.p = some a → ∃ o, H a = some o
  sl : SlAll K (Mu Z M) Z.p H σ s M

section
variable {K : PySem.W.Frag} {mu mu' : Addr → Prop} {H H' : Hp} {p : Option Addr} {Z : Par} {M M' : List Addr} {σ : L2.St} {s : Sl}
theorem Rel.muT (r : Rel K Z M σ H s) : ∀ a, Mu Z M a → ∃ o, H a = some o := fun a h => by
  rcases h with h | h | h
  · exact r.mz a h
  · exact r.pt a h
  · exact (r.fr a h).2.2.2
theorem SlAll.grow (g : ∀ a o, H a = some o → H' a = some o) : ∀ {σ : L2.St} {s : Sl} {M : List Addr}, SlAll K mu p H σ s M → SlAll K mu p H' σ s M
  | _, _, _, .nil => .nil
  | _, _, _, .dat h t => .dat (h.mono fun a o e n => ⟨g a o e, n⟩) (SlAll.grow g t)
  | _, _, _, .no t => .no (SlAll.grow g t)
  | _, _, _, .own h d n t => .own (g _ _ h) (d.mono fun a o e n => ⟨g a o e, n⟩) n (SlAll.grow g t)
  | _, _, _, .pot e h d t => .pot e (g _ _ h) (d.mono fun a o e n => ⟨g a o e, n⟩) (SlAll.grow g t)
  | _, _, _, .tab e h d f t => .tab e (g _ _ h) d (fun pos cv z => let ⟨c, h1, h2, h3⟩ := f pos cv z; ⟨c, h1, g _ _ h2, h3⟩) (SlAll.grow g t)
theorem Rel.grow (r : Rel K Z M σ H s) (g : ∀ a o, H a = some o → H' a = some o) : Rel K Z M σ H' s :=
  ⟨fun a o h n => g a o (r.base a o h n), fun a h => ⟨(r.fr a h).1, (r.fr a h).2.1, (r.fr a h).2.2.1, let ⟨o, e⟩ := (r.fr a h).2.2.2; ⟨o, g a o e⟩⟩, fun a h => let ⟨o, e⟩ := r.mz a h; ⟨o, g a o e⟩, fun a h => let ⟨o, e⟩ := r.pt a h; ⟨o, g a o e⟩, r.sl.grow g⟩
theorem kp_grow (g : ∀ a o, H a = some o → H' a = some o) : Kp mu H mu H' := fun a o e n => ⟨g a o e, n⟩
theorem SlAll.len : ∀ {σ : L2.St} {s : Sl} {M : List Addr}, SlAll K mu p H σ s M → σ.length = s.length
  | _, _, _, .nil => rfl
  | _, _, _, .dat h t => by simp [SlAll.len t]
  | _, _, _, .no t => by simp [SlAll.len t]
  | _, _, _, .own h d n t => by simp [SlAll.len t]
  | _, _, _, .pot e h d t => by simp [SlAll.len t]
  | _, _, _, .tab e h d f t => by simp [SlAll.len t]
theorem SlAll.get : ∀ {σ : L2.St} {s : Sl} {M : List Addr} {i : Nat} {d : PyData}, SlAll K mu p H σ s M → s[i]? = some (.dat d) → ∃ v, σ[i]? = some (some v) ∧ Dt K mu H v d
  | _, _, _, _, _, .nil, e => by simp at e
  | _, _, _, 0, _, .dat h t, e => by simp at e; subst e; exact ⟨_, rfl, h⟩
  | _, _, _, 0, _, .no t, e => by simp at e
  | _, _, _, 0, _, .own .., e => by simp at e
  | _, _, _, 0, _, .pot .., e => by simp at e
  | _, _, _, i + 1, _, .dat h t, e => by simpa using SlAll.get (i := i) t (by simpa using e)
  | _, _, _, i + 1, _, .no t, e => by simpa using SlAll.get (i := i) t (by simpa using e)
  | _, _, _, i + 1, _, .own _ _ _ t, e => by simpa using SlAll.get (i := i) t (by simpa using e)
  | _, _, _, i + 1, _, .pot _ _ _ t, e => by simpa using SlAll.get (i := i) t (by simpa using e)
  | _, _, _, 0, _, .tab .., e => by simp at e
  | _, _, _, i + 1, _, .tab _ _ _ _ t, e => by simpa using SlAll.get (i := i) t (by simpa using e)
theorem SlAll.getPot : ∀ {σ : L2.St} {s : Sl} {M : List Addr} {i : Nat} {ds : List PyData}, SlAll K mu p H σ s M → s[i]? = some (.pot ds) → ∃ a xs, σ[i]? = some (some (.ref a)) ∧ p = some a ∧ H a = some (.lst xs) ∧ DtAll K mu H xs ds
  | _, _, _, _, _, .nil, e => by simp at e
  | _, _, _, 0, _, .dat h t, e => by simp at e
  | _, _, _, 0, _, .no t, e => by simp at e
  | _, _, _, 0, _, .own .., e => by simp at e
  | _, _, _, 0, _, .pot h1 h2 h3 t, e => by simp at e; subst e; exact ⟨_, _, rfl, h1, h2, h3⟩
  | _, _, _, i + 1, _, .dat h t, e => by simpa using SlAll.getPot (i := i) t (by simpa using e)
  | _, _, _, i + 1, _, .no t, e => by simpa using SlAll.getPot (i := i) t (by simpa using e)
  | _, _, _, i + 1, _, .own _ _ _ t, e => by simpa using SlAll.getPot (i := i) t (by simpa using e)
  | _, _, _, i + 1, _, .pot _ _ _ t, e => by simpa using SlAll.getPot (i := i) t (by simpa using e)
  | _, _, _, 0, _, .tab .., e => by simp at e
  | _, _, _, i + 1, _, .tab _ _ _ _ t, e => by simpa using SlAll.getPot (i := i) t (by simpa using e)
theorem SlAll.getOwn : ∀ {σ : L2.St} {s : Sl} {M : List Addr} {i : Nat} {ds : List PyData}, SlAll K mu p H σ s M → s[i]? = some (.own ds) → ∃ a xs, σ[i]? = some (some (.ref a)) ∧ a ∈ M ∧ H a = some (.lst xs) ∧ DtAll K mu H xs ds
  | _, _, _, _, _, .nil, e => by simp at e
  | _, _, _, 0, _, .dat h t, e => by simp at e
  | _, _, _, 0, _, .no t, e => by simp at e
  | _, _, _, 0, _, .own h2 h3 n t, e => by simp at e; subst e; exact ⟨_, _, rfl, List.mem_cons_self, h2, h3⟩
  | _, _, _, 0, _, .pot .., e => by simp at e
  | _, _, _, i + 1, _, .dat h t, e => by simpa using SlAll.getOwn (i := i) t (by simpa using e)
  | _, _, _, i + 1, _, .no t, e => by simpa using SlAll.getOwn (i := i) t (by simpa using e)
  | _, _, _, i + 1, _, .own _ _ _ t, e => by
    obtain ⟨a, xs, h1, h2, h3⟩ := SlAll.getOwn (i := i) t (by simpa using e)
    exact ⟨a, xs, by simpa using h1, List.mem_cons_of_mem _ h2, h3⟩
  | _, _, _, i + 1, _, .pot _ _ _ t, e => by simpa using SlAll.getOwn (i := i) t (by simpa using e)
  | _, _, _, 0, _, .tab .., e => by simp at e
  | _, _, _, i + 1, _, .tab _ _ _ _ t, e => by simpa using SlAll.getOwn (i := i) t (by simpa using e)
/-- a wider or other set of what may be written, where what is read stays -/
theorem SlAll.kp (k : Kp mu H mu' H') (ho : ∀ a xs, a ∈ M → H a = some (.lst xs) → H' a = some (.lst xs)) (hp : ∀ a o, p = some a → H a = some o → H' a = some o) : ∀ {σ : L2.St} {s : Sl} {M2 : List Addr}, (∀ a ∈ M2, a ∈ M) → SlAll K mu p H σ s M2 → SlAll K mu' p H' σ s M2
  | _, _, _, _, .nil => .nil
  | _, _, _, hs, .dat h t => .dat (h.mono k) (SlAll.kp k ho hp hs t)
  | _, _, _, hs, .no t => .no (SlAll.kp k ho hp hs t)
  | _, _, _, hs, .own h d n t => .own (ho _ _ (hs _ List.mem_cons_self) h) (d.mono k) n (SlAll.kp k ho hp (fun a h => hs a (List.mem_cons_of_mem _ h)) t)
  | _, _, _, hs, .pot e h d t => .pot e (hp _ _ e h) (d.mono k) (SlAll.kp k ho hp hs t)
  | _, _, _, hs, .tab e h d f t => .tab e (hp _ _ e h) d (fun pos cv z => let ⟨c, h1, h2, h3⟩ := f pos cv z; ⟨c, h1, (k _ _ h2 h3).1, (k _ _ h2 h3).2⟩) (SlAll.kp k ho hp hs t)
/-- a name is given data -/
theorem SlAll.setDat {v : V} {d : PyData} (hv : Dt K mu H v d) : ∀ {σ : L2.St} {s : Sl} {M : List Addr} (i : Nat), SlAll K mu p H σ s M → ∃ M', (∀ a ∈ M', a ∈ M) ∧ SlAll K mu p H (σ.set i (some v)) (s.set i (.dat d)) M'
  | _, _, _, _, .nil => ⟨[], fun _ h => h, .nil⟩
  | _, _, _, 0, .dat h t => ⟨_, fun _ h => h, .dat hv t⟩
  | _, _, _, 0, .no t => ⟨_, fun _ h => h, .dat hv t⟩
  | _, _, _, 0, .own h d n t => ⟨_, fun _ h => List.mem_cons_of_mem _ h, .dat hv t⟩
  | _, _, _, 0, .pot e h d t => ⟨_, fun _ h => h, .dat hv t⟩
  | _, _, _, 0, .tab e h d f t => ⟨_, fun _ h => h, .dat hv t⟩
  | _, _, _, i + 1, .dat h t => let ⟨M', a, b⟩ := SlAll.setDat hv i t; ⟨M', a, .dat h b⟩
  | _, _, _, i + 1, .no t => let ⟨M', a, b⟩ := SlAll.setDat hv i t; ⟨M', a, .no b⟩
  | _, _, _, i + 1, .own h d n t => let ⟨M', a, b⟩ := SlAll.setDat hv i t; ⟨_ :: M', fun c hc => by
      rcases List.mem_cons.mp hc with e | e
      · rw [e]; exact List.mem_cons_self
      · exact List.mem_cons_of_mem _ (a c e), .own h d (fun hc => n (a _ hc)) b⟩
  | _, _, _, i + 1, .pot e h d t => let ⟨M', a, b⟩ := SlAll.setDat hv i t; ⟨M', a, .pot e h d b⟩
  | _, _, _, i + 1, .tab e h d f t => let ⟨M', a, b⟩ := SlAll.setDat hv i t; ⟨M', a, .tab e h d f b⟩
theorem Rel.setDat {v : V} {d : PyData} (r : Rel K Z M σ H s) (hv : Dt K (Mu Z M) H v d) (i : Nat) : ∃ M', (∀ a ∈ M', a ∈ M) ∧ Rel K Z M' (σ.set i (some v)) H (s.set i (.dat d)) ∧ Kq Z M H M' H := by
  obtain ⟨M', h1, h2⟩ := r.sl.setDat hv i
  have k : Kp (Mu Z M) H (Mu Z M') H := fun a o e n => ⟨e, fun q => n (q.elim .inl fun z => .inr (z.elim .inl fun z => .inr (h1 a z)))⟩
  exact ⟨M', h1, ⟨r.base, fun a h => r.fr a (h1 a h), r.mz, r.pt, h2.kp k (M := M') (fun _ _ _ e => e) (fun _ _ _ e => e) (fun _ h => h)⟩, fun a o e _ n => ⟨e, fun z => n (h1 a z)⟩⟩
end
end Dl

namespace Dl
open PySem PySem.Spec PyProof.Rows L2

/-! ### meanings -/
abbrev DE := Sl → Option (PyData × Sl)
abbrev DT := Sl → Option (Bool × Sl)
abbrev DA := Sl → Option (List PyData × Sl)
inductive Fl where
  | nx (s : Sl) | rt (d : PyData) (s : Sl) | bk (s : Sl) | ct (s : Sl)
abbrev DS := Sl → Option Fl

def lft (K : PySem.W.Frag) (Z : Par) (f : DE) : TE := fun σ H Q => ∃ M s d s', Rel K Z M σ H s ∧ f s = some (d, s') ∧ ∀ v H', Kq Z M H M H' → Rel K Z M σ H' s' → Dt K (Mu Z M) H' v d → Q v H'
def lfT (K : PySem.W.Frag) (Z : Par) (f : DT) : TT := fun σ H Q => ∃ M s d s', Rel K Z M σ H s ∧ f s = some (d, s') ∧ ∀ H', Kq Z M H M H' → Rel K Z M σ H' s' → Q d H'
def lfA (K : PySem.W.Frag) (Z : Par) (f : DA) : TA := fun σ H Q => ∃ M s d s', Rel K Z M σ H s ∧ f s = some (d, s') ∧ ∀ vs H', Kq Z M H M H' → Rel K Z M σ H' s' → DtAll K (Mu Z M) H' vs d → Q vs H'
/-- what a statement leaves -/
def FlOk (K : PySem.W.Frag) (Z : Par) (M0 : List Addr) (H0 : Hp) (D : Ends) : Fl → Prop
  | .nx s => ∀ M σ H, Kq Z M0 H0 M H → Rel K Z M σ H s → D.nx σ H
  | .rt d s => ∀ M σ H v, Kq Z M0 H0 M H → Rel K Z M σ H s → Dt K (Mu Z M) H v d → D.rt v H
  | .bk s => ∀ M σ H, Kq Z M0 H0 M H → Rel K Z M σ H s → D.bk σ H
  | .ct s => ∀ M σ H, Kq Z M0 H0 M H → Rel K Z M σ H s → D.ct σ H
def lfS (K : PySem.W.Frag) (Z : Par) (f : DS) : TS := fun D σ H => ∃ M s fl, Rel K Z M σ H s ∧ f s = some fl ∧ FlOk K Z M H D fl

theorem PEimp {X : Cx} {e : Expr} {t t' : TE} (h : PE X e t) (i : ∀ σ H Q, t' σ H Q → t σ H Q) : PE X e t' := ⟨fun pins s σ H Q I q => h.run pins s σ H Q I (i σ H Q q)⟩
theorem PTimp {X : Cx} {e : Expr} {t t' : TT} (h : PT X e t) (i : ∀ σ H Q, t' σ H Q → t σ H Q) : PT X e t' := ⟨fun pins s σ H Q I q => h.run pins s σ H Q I (i σ H Q q)⟩
theorem PWimp {X : Cx} {e : Expr} {t t' : TT} (h : PW X e t) (i : ∀ σ H Q, t' σ H Q → t σ H Q) : PW X e t' := ⟨fun w pins s σ H Q I q => h.run w pins s σ H Q I (i σ H Q q)⟩
theorem PAimp {X : Cx} {e : List Expr} {t t' : TA} (h : PA X e t) (i : ∀ σ H Q, t' σ H Q → t σ H Q) : PA X e t' := ⟨fun pos pins s σ H Q I q => h.run pos pins s σ H Q I (i σ H Q q)⟩
theorem PSimp {X : Cx} {e : Stmt} {t t' : TS} (h : PS X e t) (i : ∀ D σ H, t' D σ H → t D σ H) : PS X e t' := ⟨fun pins s σ H D I q => h.run pins s σ H D I (i D σ H q)⟩
theorem PSsimp {X : Cx} {e : List Stmt} {t t' : TS} (h : PSs X e t) (i : ∀ D σ H, t' D σ H → t D σ H) : PSs X e t' := ⟨fun pins s σ H D I q => h.run pins s σ H D I (i D σ H q)⟩

/-! ### names, constants -/
def dVar (i : Nat) : DE := fun s => match s[i]? with
  | some (.dat d) => some (d, s)
  | _ => none
def dC (d : PyData) : DE := fun s => some (d, s)
theorem dVar_some {i : Nat} {s s' : Sl} {d : PyData} (h : dVar i s = some (d, s')) : s[i]? = some (.dat d) ∧ s' = s := by
  unfold dVar at h
  split at h
  · rename_i d' e
    simp only [Option.some.injEq, Prod.mk.injEq] at h
    obtain ⟨rfl, rfl⟩ := h
    exact ⟨e, rfl⟩
  · cases h

section
variable {X : Cx} {Z : Par} {a b e : Expr} {es : List Expr} {pos : Pos} {fa fb fc : DE}
theorem dv (i : Nat) {x : Str} {pos : Pos} (hN : X.N[i]? = some x := by rfl) (hv : Vis X.env.scope x := by first | exact Or.inl rfl | exact Or.inr (Or.inl rfl) | exact Or.inr (Or.inr rfl)) (hd : (x == ("__debug__" : Str)) = false := by decide)
    (hcd : (x == ("__classdict__" : Str)) = false := by decide) : PE X (.Name x pos) (lft X.K Z (dVar i)) := PEimp (pe_var hN hv hd hcd) fun σ H Q h => by
  obtain ⟨M, s, d, s', r, hf, k⟩ := h
  obtain ⟨e, rfl⟩ := dVar_some hf
  obtain ⟨v, h1, h2⟩ := r.sl.get e
  exact ⟨v, h1, k v H (Kq.refl _ _ _) r h2⟩
theorem lft_c {v : V} {d : PyData} (hv : ∀ mu H, Dt X.K mu H v d) {t : TE} (ht : t = tC v) (he : PE X e t) : PE X e (lft X.K Z (dC d)) := PEimp (by rw [ht] at he; exact he) fun σ H Q h => by
  obtain ⟨M, s, d', s', r, hf, k⟩ := h
  cases hf
  exact k v H (Kq.refl _ _ _) r (hv _ _)
theorem di {i : Int} {j pos} : PE X (.Constant (.int i) j pos) (lft X.K Z (dC (.int i))) := lft_c (fun _ _ => .int i) rfl pe_int
theorem ds {x : Str} {j pos} : PE X (.Constant (.str x) j pos) (lft X.K Z (dC (.str x))) := lft_c (fun _ _ => .str x) rfl pe_str
theorem db {b : Bool} {j pos} : PE X (.Constant (.bool b) j pos) (lft X.K Z (dC (.bool b))) := lft_c (fun _ _ => .bl b) rfl pe_bl
theorem dn {j pos} : PE X (.Constant .none j pos) (lft X.K Z (dC .none)) := lft_c (fun _ _ => .non) rfl pe_non
/-- a module's constant -/
theorem dg {x : Str} {v : V} {u : Value} {d : PyData} (hg : Gl X x) (hm : X.mg x = some u) (r : RelV v u) (hv : ∀ mu H, Dt X.K mu H v d) (hd : (x == ("__debug__" : Str)) = false := by decide) : PE X (.Name x pos) (lft X.K Z (dC d)) := lft_c hv rfl (pe_glob hg hm r hd)

/-! ### operators by trees -/
def dOp (g : PyData → PyData → Option PyData) (fa fb : DE) : DE := fun s => (fa s).bind fun p => (fb p.2).bind fun q => (g p.1 q.1).map fun d => (d, q.2)
def dUn (g : PyData → Option PyData) (fa : DE) : DE := fun s => (fa s).bind fun p => (g p.1).map fun d => (d, p.2)
theorem dOp_some {g : PyData → PyData → Option PyData} {s s' : Sl} {d : PyData} (h : dOp g fa fb s = some (d, s')) : ∃ d1 s1 d2, fa s = some (d1, s1) ∧ fb s1 = some (d2, s') ∧ g d1 d2 = some d := by
  unfold dOp at h
  simp only [Option.bind_eq_some_iff, Option.map_eq_some_iff] at h
  obtain ⟨⟨d1, s1⟩, h1, ⟨d2, s2⟩, h2, d', h3, h4⟩ := h
  cases h4
  exact ⟨d1, s1, d2, h1, h2, h3⟩
theorem dUn_some {g : PyData → Option PyData} {s s' : Sl} {d : PyData} (h : dUn g fa s = some (d, s')) : ∃ d1, fa s = some (d1, s') ∧ g d1 = some d := by
  unfold dUn at h
  simp only [Option.bind_eq_some_iff, Option.map_eq_some_iff] at h
  obtain ⟨⟨d1, s1⟩, h1, d', h3, h4⟩ := h
  cases h4
  exact ⟨d1, h1, h3⟩
/-- a rule by values does what g says of trees -/
def OpOk (K : PySem.W.Frag) (r : R2) (g : PyData → PyData → Option PyData) : Prop := ∀ (mu : Addr → Prop) (H : Hp) (x y : V) (d1 d2 d : PyData) (Q : VK), (∀ a, mu a → ∃ o, H a = some o) → Dt K mu H x d1 → Dt K mu H y d2 → g d1 d2 = some d →
  (∀ v H', (∀ a o, H a = some o → H' a = some o) → Dt K mu H' v d → Q v H') → r x y H Q
def UnOk (K : PySem.W.Frag) (r : V → Hp → VK → Prop) (g : PyData → Option PyData) : Prop := ∀ (mu : Addr → Prop) (H : Hp) (x : V) (d1 d : PyData) (Q : VK), (∀ a, mu a → ∃ o, H a = some o) → Dt K mu H x d1 → g d1 = some d →
  (∀ v H', (∀ a o, H a = some o → H' a = some o) → Dt K mu H' v d → Q v H') → r x H Q
def CallOk (K : PySem.W.Frag) (r : List V → Hp → VK → Prop) (g : List PyData → Option PyData) : Prop := ∀ (mu : Addr → Prop) (H : Hp) (xs : List V) (ds : List PyData) (d : PyData) (Q : VK), (∀ a, mu a → ∃ o, H a = some o) → DtAll K mu H xs ds → g ds = some d →
  (∀ v H', (∀ a o, H a = some o → H' a = some o) → Dt K mu H' v d → Q v H') → r xs H Q
theorem lift_op {r : R2} {g : PyData → PyData → Option PyData} (ok : OpOk X.K r g) {σ : L2.St} {H : Hp} {Q : VK} (h : lft X.K Z (dOp g fa fb) σ H Q) : tOp r (lft X.K Z fa) (lft X.K Z fb) σ H Q := by
  obtain ⟨M, s, d, s', rl, hf, k⟩ := h
  obtain ⟨d1, s1, d2, h1, h2, h3⟩ := dOp_some hf
  refine ⟨M, s, d1, s1, rl, h1, fun x H1 k1 r1 t1 => ⟨M, s1, d2, s', r1, h2, fun y H2 k2 r2 t2 => ?_⟩⟩
  refine ok (Mu Z M) H2 x y d1 d2 d Q r2.muT (t1.mono k2.kp) t2 h3 fun v H3 g3 t3 => ?_
  exact k v H3 (k1.trans (k2.trans (kq_grow g3))) (r2.grow g3) t3
theorem lift_un {r : V → Hp → VK → Prop} {g : PyData → Option PyData} (ok : UnOk X.K r g) {σ : L2.St} {H : Hp} {Q : VK} (h : lft X.K Z (dUn g fa) σ H Q) : tUn r (lft X.K Z fa) σ H Q := by
  obtain ⟨M, s, d, s', rl, hf, k⟩ := h
  obtain ⟨d1, h1, h3⟩ := dUn_some hf
  refine ⟨M, s, d1, s', rl, h1, fun x H1 k1 r1 t1 => ?_⟩
  refine ok (Mu Z M) H1 x d1 d Q r1.muT t1 h3 fun v H3 g3 t3 => ?_
  exact k v H3 (k1.trans (kq_grow g3)) (r1.grow g3) t3
theorem do_ {op : Operator} {r : R2} {g : PyData → PyData → Option PyData} (ho : OpR X (binaryOp op) r) (ok : OpOk X.K r g) (ha : PE X a (lft X.K Z fa)) (hb : PE X b (lft X.K Z fb)) : PE X (.BinOp a op b pos) (lft X.K Z (dOp g fa fb)) :=
  PEimp (pe_op ho ha hb) fun _ _ _ h => lift_op ok h
theorem du {op : UnaryOp} {r : V → Hp → VK → Prop} {g : PyData → Option PyData} (ho : UnR X (unaryOp op) r) (ok : UnOk X.K r g) (ha : PE X a (lft X.K Z fa)) : PE X (.UnaryOp op a pos) (lft X.K Z (dUn g fa)) :=
  PEimp (pe_un ho ha) fun _ _ _ h => lift_un ok h
theorem dcmp {op : CmpOp} {r : R2} {g : PyData → PyData → Option PyData} (ho : OpR X (compareOp op) r) (ok : OpOk X.K r g) (ha : PE X a (lft X.K Z fa)) (hb : PE X b (lft X.K Z fb)) (hm : behindInMarks op b = false) : PE X (.Compare a [op] [b] pos) (lft X.K Z (dOp g fa fb)) :=
  PEimp (pe_cmpR ho ha hb hm) fun _ _ _ h => lift_op ok h
theorem dix {r : R2} {g : PyData → PyData → Option PyData} (ho : IxR X r) (ok : OpOk X.K r g) (ha : PE X a (lft X.K Z fa)) (hb : PE X b (lft X.K Z fb)) (hs : PlainIx b := by exact fun _ _ => rfl) : PE X (.Subscript a b pos) (lft X.K Z (dOp g fa fb)) :=
  PEimp (pe_ix ho ha hb hs) fun _ _ _ h => lift_op ok h

/-! ### tests -/
def dTst (f : DE) : DT := fun s => (f s).bind fun p => match p.1 with
  | .bool b => some (b, p.2)
  | _ => none
theorem dTst_some {f : DE} {s s' : Sl} {b : Bool} (h : dTst f s = some (b, s')) : f s = some (.bool b, s') := by
  unfold dTst at h
  simp only [Option.bind_eq_some_iff] at h
  obtain ⟨⟨d1, s1⟩, h1, h2⟩ := h
  dsimp only at h2
  split at h2
  · cases h2; exact h1
  · cases h2
theorem lift_tB {f : DE} {σ : L2.St} {H : Hp} {Q : Bool → Hp → Prop} (h : lfT X.K Z (dTst f) σ H Q) : tB (lft X.K Z f) σ H Q := by
  obtain ⟨M, s, b, s', rl, hf, k⟩ := h
  exact ⟨M, s, .bool b, s', rl, dTst_some hf, fun v H' k1 r1 t1 => ⟨b, t1.bool, k H' k1 r1⟩⟩
/-- an expression that gives a bool, as a test -/
theorem dt (h : PE X e (lft X.K Z fa)) (he : ∀ whole, isTrue e X.env whole = (do let v ← whole; standAt e.pos; holding [v] (truthy v)) := by intro _; rfl) : PT X e (lfT X.K Z (dTst fa)) := PTimp (pt_val h he) fun _ _ _ h => lift_tB h
theorem dtcmp {op : CmpOp} {r : R2} {g : PyData → PyData → Option PyData} (ho : OpR X (compareOp op) r) (ok : OpOk X.K r g) (ha : PE X a (lft X.K Z fa)) (hb : PE X b (lft X.K Z fb)) (hm : behindInMarks op b = false) : PT X (.Compare a [op] [b] pos) (lfT X.K Z (dTst (dOp g fa fb))) :=
  PTimp (pt_cmpR ho ha hb hm) fun σ H Q h => by
    obtain ⟨M, s, b, s', rl, hf, k⟩ := h
    exact lift_op ok ⟨M, s, .bool b, s', rl, dTst_some hf, fun v H' k1 r1 t1 => ⟨b, t1.bool, k H' k1 r1⟩⟩
variable {ta tb : DT} {rest : List Expr}
def dAndT (f g : DT) : DT := fun s => (f s).bind fun p => if p.1 = true then g p.2 else some (false, p.2)
def dOrT (f g : DT) : DT := fun s => (f s).bind fun p => if p.1 = true then some (true, p.2) else g p.2
def dNotT (f : DT) : DT := fun s => (f s).map fun p => (!p.1, p.2)
theorem dtand (ha : PT X a (lfT X.K Z ta)) (hb : PW X (.BoolOp .And (b :: rest) pos) (lfT X.K Z tb)) : PW X (.BoolOp .And (a :: b :: rest) pos) (lfT X.K Z (dAndT ta tb)) := PWimp (pw_and ha hb) fun σ H Q h => by
  obtain ⟨M, s, c, s', rl, hf, k⟩ := h
  unfold dAndT at hf
  simp only [Option.bind_eq_some_iff] at hf
  obtain ⟨⟨c1, s1⟩, h1, h2⟩ := hf
  refine ⟨M, s, c1, s1, rl, h1, fun H1 k1 r1 => ?_⟩
  cases c1 with
  | true => exact ⟨M, s1, c, s', r1, h2, fun H2 k2 r2 => k H2 (k1.trans k2) r2⟩
  | false => cases h2; exact k H1 k1 r1
theorem dtor (ha : PT X a (lfT X.K Z ta)) (hb : PW X (.BoolOp .Or (b :: rest) pos) (lfT X.K Z tb)) : PW X (.BoolOp .Or (a :: b :: rest) pos) (lfT X.K Z (dOrT ta tb)) := PWimp (pw_or ha hb) fun σ H Q h => by
  obtain ⟨M, s, c, s', rl, hf, k⟩ := h
  unfold dOrT at hf
  simp only [Option.bind_eq_some_iff] at hf
  obtain ⟨⟨c1, s1⟩, h1, h2⟩ := hf
  refine ⟨M, s, c1, s1, rl, h1, fun H1 k1 r1 => ?_⟩
  cases c1 with
  | false => exact ⟨M, s1, c, s', r1, h2, fun H2 k2 r2 => k H2 (k1.trans k2) r2⟩
  | true => cases h2; exact k H1 k1 r1
theorem dtnot (ha : PT X a (lfT X.K Z ta)) : PT X (.UnaryOp .Not a pos) (lfT X.K Z (dNotT ta)) := PTimp (pt_not ha) fun σ H Q h => by
  obtain ⟨M, s, c, s', rl, hf, k⟩ := h
  unfold dNotT at hf
  simp only [Option.map_eq_some_iff] at hf
  obtain ⟨⟨c1, s1⟩, h1, h2⟩ := hf
  cases h2
  exact ⟨M, s, c1, s1, rl, h1, fun H1 k1 r1 => k H1 k1 r1⟩
/-! and, or, not as values; all but the last bools -/
def dAnd (f g : DE) : DE := fun s => (dTst f s).bind fun p => if p.1 = true then g p.2 else some (.bool false, p.2)
def dOr (f g : DE) : DE := fun s => (dTst f s).bind fun p => if p.1 = true then some (.bool true, p.2) else g p.2
def dNot (f : DE) : DE := fun s => (dTst f s).map fun p => (.bool (!p.1), p.2)
theorem dand (ha : PE X a (lft X.K Z fa)) (hb : PE X (.BoolOp .And (b :: rest) pos) (lft X.K Z fb)) : PE X (.BoolOp .And (a :: b :: rest) pos) (lft X.K Z (dAnd fa fb)) := PEimp (pe_and ha hb) fun σ H Q h => by
  obtain ⟨M, s, c, s', rl, hf, k⟩ := h
  unfold dAnd at hf
  simp only [Option.bind_eq_some_iff] at hf
  obtain ⟨⟨c1, s1⟩, h1, h2⟩ := hf
  refine ⟨M, s, .bool c1, s1, rl, dTst_some h1, fun v H1 k1 r1 t1 => ⟨c1, t1.bool, ?_⟩⟩
  cases c1 with
  | true => exact ⟨M, s1, c, s', r1, h2, fun v2 H2 k2 r2 t2 => k v2 H2 (k1.trans k2) r2 t2⟩
  | false => cases h2; exact k _ H1 k1 r1 (.bl false)
theorem dor (ha : PE X a (lft X.K Z fa)) (hb : PE X (.BoolOp .Or (b :: rest) pos) (lft X.K Z fb)) : PE X (.BoolOp .Or (a :: b :: rest) pos) (lft X.K Z (dOr fa fb)) := PEimp (pe_or ha hb) fun σ H Q h => by
  obtain ⟨M, s, c, s', rl, hf, k⟩ := h
  unfold dOr at hf
  simp only [Option.bind_eq_some_iff] at hf
  obtain ⟨⟨c1, s1⟩, h1, h2⟩ := hf
  refine ⟨M, s, .bool c1, s1, rl, dTst_some h1, fun v H1 k1 r1 t1 => ⟨c1, t1.bool, ?_⟩⟩
  cases c1 with
  | false => exact ⟨M, s1, c, s', r1, h2, fun v2 H2 k2 r2 t2 => k v2 H2 (k1.trans k2) r2 t2⟩
  | true => cases h2; exact k _ H1 k1 r1 (.bl true)
theorem dnot (ha : PE X a (lft X.K Z fa)) : PE X (.UnaryOp .Not a pos) (lft X.K Z (dNot fa)) := PEimp (pe_not ha) fun σ H Q h => by
  obtain ⟨M, s, c, s', rl, hf, k⟩ := h
  unfold dNot at hf
  simp only [Option.map_eq_some_iff] at hf
  obtain ⟨⟨c1, s1⟩, h1, h2⟩ := hf
  cases h2
  exact ⟨M, s, .bool c1, s1, rl, dTst_some h1, fun v H1 k1 r1 t1 => ⟨c1, t1.bool, k _ H1 k1 r1 (.bl _)⟩⟩
def dIf (t : DT) (f g : DE) : DE := fun s => (t s).bind fun p => if p.1 = true then f p.2 else g p.2
theorem dif_ {c : Expr} (hc : PT X c (lfT X.K Z ta)) (ha : PE X a (lft X.K Z fa)) (hb : PE X b (lft X.K Z fb)) : PE X (.IfExp c a b pos) (lft X.K Z (dIf ta fa fb)) := PEimp (pe_ifExp hc ha hb) fun σ H Q h => by
  obtain ⟨M, s, d, s', rl, hf, k⟩ := h
  unfold dIf at hf
  simp only [Option.bind_eq_some_iff] at hf
  obtain ⟨⟨c1, s1⟩, h1, h2⟩ := hf
  refine ⟨M, s, c1, s1, rl, h1, fun H1 k1 r1 => ?_⟩
  cases c1 with
  | false => exact ⟨M, s1, d, s', r1, h2, fun v2 H2 k2 r2 t2 => k v2 H2 (k1.trans k2) r2 t2⟩
  | true => exact ⟨M, s1, d, s', r1, h2, fun v2 H2 k2 r2 t2 => k v2 H2 (k1.trans k2) r2 t2⟩
/-- a op b op' c -/
def dChain (g g' : PyData → PyData → Option PyData) (fa fb fc : DE) : DE := fun s => (fa s).bind fun p => (fb p.2).bind fun q => (g p.1 q.1).bind fun c => match c with
  | .bool true => (fc q.2).bind fun w => (g' q.1 w.1).map fun d => (d, w.2)
  | .bool false => some (.bool false, q.2)
  | _ => none
theorem lift_chain {r r' : R2} {g g' : PyData → PyData → Option PyData} (ok : OpOk X.K r g) (ok' : OpOk X.K r' g') {σ : L2.St} {H : Hp} {Q : VK} (h : lft X.K Z (dChain g g' fa fb fc) σ H Q) : tChain r r' (lft X.K Z fa) (lft X.K Z fb) (lft X.K Z fc) σ H Q := by
  obtain ⟨M, s, d, s', rl, hf, k⟩ := h
  unfold dChain at hf
  simp only [Option.bind_eq_some_iff] at hf
  obtain ⟨⟨d1, s1⟩, h1, ⟨d2, s2⟩, h2, c, h3, h4⟩ := hf
  refine ⟨M, s, d1, s1, rl, h1, fun x H1 k1 r1 t1 => ⟨M, s1, d2, s2, r1, h2, fun y H2 k2 r2 t2 => ?_⟩⟩
  refine ok (Mu Z M) H2 x y d1 d2 c _ r2.muT (t1.mono k2.kp) t2 h3 fun v H3 g3 t3 => ?_
  have k3 : Kq Z M H2 M H3 := kq_grow g3
  split at h4
  · refine ⟨true, t3.bool, ?_⟩
    simp only [Option.bind_eq_some_iff, Option.map_eq_some_iff] at h4
    obtain ⟨⟨d3, s3⟩, h5, d4, h6, h7⟩ := h4
    cases h7
    refine iteT ⟨M, s2, d3, _, r2.grow g3, h5, fun z H4 k4 r4 t4 => ?_⟩
    refine ok' (Mu Z M) H4 y z d2 d3 _ Q r4.muT (t2.mono (k3.trans k4).kp) t4 h6 fun v H5 g5 t5 => ?_
    exact k v H5 (k1.trans (k2.trans (k3.trans (k4.trans (kq_grow g5))))) (r4.grow g5) t5
  · refine ⟨false, t3.bool, iteF ?_⟩
    cases h4
    exact k _ H3 (k1.trans (k2.trans k3)) (r2.grow g3) (.bl false)
  · cases h4
theorem dchain {op op' : CmpOp} {r r' : R2} {c : Expr} {g g' : PyData → PyData → Option PyData} (ho : OpR X (compareOp op) r) (ok : OpOk X.K r g) (ho' : OpR X (compareOp op') r') (ok' : OpOk X.K r' g') (ha : PE X a (lft X.K Z fa)) (hb : PE X b (lft X.K Z fb)) (hc : PE X c (lft X.K Z fc))
    (hm : lastMarks [op, op'] [b, c] = false := by with_unfolding_all rfl) : PE X (.Compare a [op, op'] [b, c] pos) (lft X.K Z (dChain g g' fa fb fc)) := PEimp (pe_chain ho ho' ha hb hc hm) fun _ _ _ h => lift_chain ok ok' h
theorem dtchain {op op' : CmpOp} {r r' : R2} {c : Expr} {g g' : PyData → PyData → Option PyData} (ho : OpR X (compareOp op) r) (ok : OpOk X.K r g) (ho' : OpR X (compareOp op') r') (ok' : OpOk X.K r' g') (ha : PE X a (lft X.K Z fa)) (hb : PE X b (lft X.K Z fb)) (hc : PE X c (lft X.K Z fc))
    (hm : lastMarks [op, op'] [b, c] = false := by with_unfolding_all rfl) : PT X (.Compare a [op, op'] [b, c] pos) (lfT X.K Z (dTst (dChain g g' fa fb fc))) := PTimp (pt_chain ho ho' ha hb hc hm) fun σ H Q h => by
  obtain ⟨M, s, b, s', rl, hf, k⟩ := h
  exact lift_chain ok ok' ⟨M, s, .bool b, s', rl, dTst_some hf, fun v H' k1 r1 t1 => ⟨b, t1.bool, k H' k1 r1⟩⟩

/-! ### arguments, displays, built-ins -/
def aNil : DA := fun s => some ([], s)
def aCons (f : DE) (g : DA) : DA := fun s => (f s).bind fun p => (g p.2).map fun q => (p.1 :: q.1, q.2)
theorem aCons_some {f : DE} {g : DA} {s s' : Sl} {ds : List PyData} (h : aCons f g s = some (ds, s')) : ∃ d s1 r, f s = some (d, s1) ∧ g s1 = some (r, s') ∧ ds = d :: r := by
  unfold aCons at h
  simp only [Option.bind_eq_some_iff, Option.map_eq_some_iff] at h
  obtain ⟨⟨d1, s1⟩, h1, ⟨r, s2⟩, h2, h3⟩ := h
  cases h3
  exact ⟨d1, s1, r, h1, h2, rfl⟩
variable {ga gb : DA}
theorem danil : PA X [] (lfA X.K Z aNil) := PAimp pa_nil fun σ H Q h => by
  obtain ⟨M, s, d, s', rl, hf, k⟩ := h
  cases hf
  exact k [] H (Kq.refl _ _ _) rl .nil
theorem dac (ha : PE X e (lft X.K Z fa)) (hb : PA X es (lfA X.K Z ga)) (hs : starEach (e :: es) X.env = (false, eval e X.env) :: starEach es X.env := by rfl) : PA X (e :: es) (lfA X.K Z (aCons fa ga)) := PAimp (pa_cons ha hb hs) fun σ H Q h => by
  obtain ⟨M, s, d, s', rl, hf, k⟩ := h
  obtain ⟨d1, s1, r, h1, h2, rfl⟩ := aCons_some hf
  exact ⟨M, s, d1, s1, rl, h1, fun v H1 k1 r1 t1 => ⟨M, s1, r, s', r1, h2, fun vs H2 k2 r2 t2 => k _ H2 (k1.trans k2) r2 (.cons (t1.mono k2.kp) t2)⟩⟩
def dTup (g : DA) : DE := fun s => (g s).bind fun p => if p.1.length ≤ sizeLine then some (.tuple p.1, p.2) else none
def dLst (g : DA) : DE := fun s => (g s).bind fun p => if p.1.length ≤ sizeLine then some (.list p.1, p.2) else none
def dB (g : List PyData → Option PyData) (f : DA) : DE := fun s => (f s).bind fun p => (g p.1).map fun d => (d, p.2)
theorem dTup_some {g : DA} {s s' : Sl} {d : PyData} (h : dTup g s = some (d, s')) : ∃ ds, g s = some (ds, s') ∧ ds.length ≤ sizeLine ∧ d = .tuple ds := by
  unfold dTup at h
  simp only [Option.bind_eq_some_iff] at h
  obtain ⟨⟨d1, s1⟩, h1, h2⟩ := h
  dsimp only at h2
  split at h2
  · cases h2; exact ⟨d1, h1, by assumption, rfl⟩
  · cases h2
theorem dLst_some {g : DA} {s s' : Sl} {d : PyData} (h : dLst g s = some (d, s')) : ∃ ds, g s = some (ds, s') ∧ ds.length ≤ sizeLine ∧ d = .list ds := by
  unfold dLst at h
  simp only [Option.bind_eq_some_iff] at h
  obtain ⟨⟨d1, s1⟩, h1, h2⟩ := h
  dsimp only at h2
  split at h2
  · cases h2; exact ⟨d1, h1, by assumption, rfl⟩
  · cases h2
theorem grow_new {H : Hp} {p : Addr} {o : HO} (h : H p = none) : ∀ a u, H a = some u → (upd H p o) a = some u := fun a u e => by
  rw [upd_ne (ne_of_none e h)]; exact e
theorem nomu_new {H : Hp} {mu : Addr → Prop} {p : Addr} (hm : ∀ a, mu a → ∃ o, H a = some o) (h : H p = none) : ¬ mu p := fun q => by
  obtain ⟨o, e⟩ := hm p q
  rw [h] at e; cases e
theorem dt_newT {K : PySem.W.Frag} {H : Hp} {mu : Addr → Prop} {p : Addr} {xs : List V} {ds : List PyData} (hm : ∀ a, mu a → ∃ o, H a = some o) (h : H p = none) (t : DtAll K mu H xs ds) : Dt K mu (upd H p (.tup xs)) (.ref p) (.tuple ds) :=
  .tup (.inl upd_same) (nomu_new hm h) (t.mono (kp_grow (grow_new h)))
theorem dt_newL {K : PySem.W.Frag} {H : Hp} {mu : Addr → Prop} {p : Addr} {xs : List V} {ds : List PyData} (hm : ∀ a, mu a → ∃ o, H a = some o) (h : H p = none) (t : DtAll K mu H xs ds) : Dt K mu (upd H p (.lst xs)) (.ref p) (.list ds) :=
  .lst (.inl upd_same) (nomu_new hm h) (t.mono (kp_grow (grow_new h)))
theorem dtup {x1} (h : PA X es (lfA X.K Z ga)) : PE X (.Tuple es x1 pos) (lft X.K Z (dTup ga)) := PEimp (pe_tup h) fun σ H Q h => by
  obtain ⟨M, s, d, s', rl, hf, k⟩ := h
  obtain ⟨ds, h1, hz, rfl⟩ := dTup_some hf
  refine ⟨M, s, ds, s', rl, h1, fun vs H1 k1 r1 t1 => ⟨by rw [t1.len]; exact hz, fun p hp => ?_⟩⟩
  exact k _ _ (k1.trans (kq_grow (grow_new hp))) (r1.grow (grow_new hp)) (dt_newT r1.muT hp t1)
theorem dlst (h : PA X es (lfA X.K Z ga)) : PE X (.List es pos) (lft X.K Z (dLst ga)) := PEimp (pe_lst h) fun σ H Q h => by
  obtain ⟨M, s, d, s', rl, hf, k⟩ := h
  obtain ⟨ds, h1, hz, rfl⟩ := dLst_some hf
  refine ⟨M, s, ds, s', rl, h1, fun vs H1 k1 r1 t1 => ⟨by rw [t1.len]; exact hz, fun p hp => ?_⟩⟩
  exact k _ _ (k1.trans (kq_grow (grow_new hp))) (r1.grow (grow_new hp)) (dt_newL r1.muT hp t1)
theorem ddct : PE X (.Dict [] [] pos) (lft X.K Z (dC (.dict []))) := PEimp pe_dnewK fun σ H Q h => by
  obtain ⟨M, s, d, s', rl, hf, k⟩ := h
  cases hf
  intro p hp
  exact k _ _ (kq_grow (grow_new hp)) (rl.grow (grow_new hp)) (.dct upd_same (nomu_new rl.muT hp) .nil)
theorem lift_cb {r : List V → Hp → VK → Prop} {g : List PyData → Option PyData} (ok : CallOk X.K r g) {σ : L2.St} {H : Hp} {Q : VK} (h : lft X.K Z (dB g ga) σ H Q) : tCB r (lfA X.K Z ga) σ H Q := by
  obtain ⟨M, s, d, s', rl, hf, k⟩ := h
  unfold dB at hf
  simp only [Option.bind_eq_some_iff, Option.map_eq_some_iff] at hf
  obtain ⟨⟨ds, s1⟩, h1, d', h2, h3⟩ := hf
  cases h3
  refine ⟨M, s, ds, _, rl, h1, fun vs H1 k1 r1 t1 => ?_⟩
  exact ok (Mu Z M) H1 vs ds _ Q r1.muT t1 h2 fun v H3 g3 t3 => k v H3 (k1.trans (kq_grow g3)) (r1.grow g3) t3
theorem dcb {x : Str} {p : Pos} {id : String} {r : List V → Hp → VK → Prop} {g : List PyData → Option PyData} (hc : CallR X (.builtin id) r) (ok : CallOk X.K r g) (hg : Gl X x) (hm : X.mg x = none) (hv : bootBuiltins x = some (.builtin id)) (ha : PA X (e :: es) (lfA X.K Z ga)) (hn : x ≠ "__name__" := by decide)
    (hdb : (x == ("__debug__" : Str)) = false := by decide) (he : starEach (e :: es) X.env = (false, eval e X.env) :: starEach es X.env := by rfl) (hpl : (backTo pos (starEach es X.env)).any (·.1) = false := by rfl) : PE X (.Call (.Name x p) (e :: es) [] pos) (lft X.K Z (dB g ga)) :=
  PEimp (pe_callB hc hg hm hv ha hn hdb he hpl) fun _ _ _ h => lift_cb ok h
theorem dcty {x : Str} {p : Pos} {T : String} {r : List V → Hp → VK → Prop} {g : List PyData → Option PyData} (hc : CallR X (.type T) r) (ok : CallOk X.K r g) (hg : Gl X x) (hm : X.mg x = none) (hv : bootBuiltins x = some (.type T)) (ha : PA X (e :: es) (lfA X.K Z ga)) (hn : x ≠ "__name__" := by decide)
    (hdb : (x == ("__debug__" : Str)) = false := by decide) (he : starEach (e :: es) X.env = (false, eval e X.env) :: starEach es X.env := by rfl) (hpl : (backTo pos (starEach es X.env)).any (·.1) = false := by rfl) : PE X (.Call (.Name x p) (e :: es) [] pos) (lft X.K Z (dB g ga)) :=
  PEimp (pe_callTy hc hg hm hv ha hn hdb he hpl) fun _ _ _ h => lift_cb ok h
end
end Dl

namespace Dl
open PySem PySem.Spec PyProof.Rows L2

/-! ### protecting one more address -/
def Par.add (Z : Par) (p : Addr) : Par := { Z with m0 := fun a => Z.m0 a ∨ a = p }
section
variable {K : PySem.W.Frag} {Z : Par} {M M' : List Addr} {σ : L2.St} {H H' : Hp} {s s' : Sl} {p : Addr}
theorem mu_add {a : Addr} : Mu (Z.add p) M a ↔ Mu Z M a ∨ a = p := by
  unfold Mu Par.add
  constructor
  · rintro ((h | h) | h | h)
    · exact .inl (.inl h)
    · exact .inr h
    · exact .inl (.inr (.inl h))
    · exact .inl (.inr (.inr h))
  · rintro ((h | h | h) | h)
    · exact .inl (.inl h)
    · exact .inr (.inl h)
    · exact .inr (.inr h)
    · exact .inl (.inr h)
theorem mu_cons {a : Addr} : Mu Z (p :: M) a ↔ Mu Z M a ∨ a = p := by
  unfold Mu
  simp only [List.mem_cons]
  constructor
  · rintro (h | h | h | h)
    · exact .inl (.inl h)
    · exact .inl (.inr (.inl h))
    · exact .inr h
    · exact .inl (.inr (.inr h))
  · rintro ((h | h | h) | h)
    · exact .inl h
    · exact .inr (.inl h)
    · exact .inr (.inr (.inr h))
    · exact .inr (.inr (.inl h))
/-- a new object is laid and protected -/
theorem Rel.addNew (r : Rel K Z M σ H s) (hp : H p = none) (o : HO) : Rel K (Z.add p) M σ (upd H p o) s := by
  have g := grow_new (o := o) hp
  have k : Kp (Mu Z M) H (Mu (Z.add p) M) (upd H p o) := fun a u e n => ⟨g a u e, fun q => (mu_add.mp q).elim n (ne_of_none e hp)⟩
  refine ⟨fun a u e n => g a u (r.base a u e n), fun a h => ?_, fun a h => ?_, fun a h => let ⟨u, e⟩ := r.pt a h; ⟨u, g a u e⟩, ?_⟩
  · obtain ⟨h1, h2, h3, u, e⟩ := r.fr a h
    exact ⟨h1, h2, fun q => q.elim h3 (ne_of_none e hp), u, g a u e⟩
  · rcases h with h | h
    · obtain ⟨u, e⟩ := r.mz a h
      exact ⟨u, g a u e⟩
    · rw [h]; exact ⟨o, upd_same⟩
  · exact r.sl.kp k (M := M) (fun a xs _ e => g _ _ e) (fun a xs _ e => g _ _ e) (fun _ h => h)
theorem kp_addNew (hp : H p = none) (o : HO) : Kp (Mu Z M) H (Mu (Z.add p) M) (upd H p o) := fun a u e n => ⟨grow_new hp a u e, fun q => (mu_add.mp q).elim n (ne_of_none e hp)⟩
theorem kp_drop : Kp (Mu (Z.add p) M) H (Mu Z M) H := fun a u e n => ⟨e, fun q => n (mu_add.mpr (.inl q))⟩
theorem Rel.unadd (r : Rel K (Z.add p) M σ H s) : Rel K Z M σ H s :=
  ⟨r.base, fun a h => let ⟨h1, h2, h3, h4⟩ := r.fr a h; ⟨h1, h2, fun q => h3 (.inl q), h4⟩, fun a h => r.mz a (.inl h), r.pt, r.sl.kp kp_drop (M := M) (fun _ _ _ e => e) (fun _ _ _ e => e) (fun _ h => h)⟩
/-- the protected object is written -/
theorem Rel.wrAdd (r : Rel K (Z.add p) M σ H s) (hpp : Z.p ≠ some p) (o : HO) (h0 : Z.H0 p = none) : Rel K (Z.add p) M σ (upd H p o) s := by
  have mup : Mu (Z.add p) M p := .inl (.inr rfl)
  have k : Kp (Mu (Z.add p) M) H (Mu (Z.add p) M) (upd H p o) := fun a u e n => ⟨by
    have na : a ≠ p := fun z => n (by rw [z]; exact mup)
    rw [upd_ne na]; exact e, n⟩
  have ex : ∀ a u, H a = some u → ∃ w, (upd H p o) a = some w := fun a u e => by
    by_cases h : a = p
    · rw [h]; exact ⟨o, upd_same⟩
    · exact ⟨u, by rw [upd_ne h]; exact e⟩
  refine ⟨fun a u e n => ?_, fun a h => ?_, fun a h => let ⟨u, e⟩ := r.mz a h; ex a u e, fun a h => let ⟨u, e⟩ := r.pt a h; ex a u e, ?_⟩
  · have na : a ≠ p := ne_of_none e h0
    rw [upd_ne na]
    exact r.base a u e n
  · obtain ⟨h1, h2, h3, u, e⟩ := r.fr a h
    exact ⟨h1, h2, h3, ex a u e⟩
  · refine r.sl.kp k (M := M) (fun a xs hm e => ?_) (fun a xs hq e => ?_) (fun _ h => h)
    · have na : a ≠ p := fun z => (r.fr a hm).2.2.1 (.inr z)
      rw [upd_ne na]; exact e
    · have na : a ≠ p := fun z => hpp (z ▸ hq)
      rw [upd_ne na]; exact e
/-- a protected new list becomes a name's own -/
theorem SlAll.setOwn {mu : Addr → Prop} {q : Option Addr} {a : Addr} {xs : List V} {ds : List PyData} (h1 : H a = some (.lst xs)) (h2 : DtAll K mu H xs ds) {σ : L2.St} {s : Sl} {M : List Addr} (t : SlAll K mu q H σ s M) :
    ∀ (i : Nat), i < s.length → a ∉ M → ∃ M', (∀ b ∈ M', b ∈ M ∨ b = a) ∧ SlAll K mu q H (σ.set i (some (.ref a))) (s.set i (.own ds)) M' := by
  induction t with
  | nil => intro i hi _; exact absurd hi (Nat.not_lt_zero _)
  | dat h t ih =>
    intro i hi n
    cases i with
    | zero => exact ⟨_, fun b hb => (List.mem_cons.mp hb).elim .inr .inl, .own h1 h2 n t⟩
    | succ i =>
      obtain ⟨M', a1, b1⟩ := ih i (by simpa using hi) n
      exact ⟨M', a1, .dat h b1⟩
  | no t ih =>
    intro i hi n
    cases i with
    | zero => exact ⟨_, fun b hb => (List.mem_cons.mp hb).elim .inr .inl, .own h1 h2 n t⟩
    | succ i =>
      obtain ⟨M', a1, b1⟩ := ih i (by simpa using hi) n
      exact ⟨M', a1, .no b1⟩
  | pot e h d t ih =>
    intro i hi n
    cases i with
    | zero => exact ⟨_, fun b hb => (List.mem_cons.mp hb).elim .inr .inl, .own h1 h2 n t⟩
    | succ i =>
      obtain ⟨M', a1, b1⟩ := ih i (by simpa using hi) n
      exact ⟨M', a1, .pot e h d b1⟩
  | tab e h d f t ih =>
    intro i hi n
    cases i with
    | zero => exact ⟨_, fun b hb => (List.mem_cons.mp hb).elim .inr .inl, .own h1 h2 n t⟩
    | succ i =>
      obtain ⟨M', a1, b1⟩ := ih i (by simpa using hi) n
      exact ⟨M', a1, .tab e h d f b1⟩
  | @own c ys es σ s M h d m t ih =>
    intro i hi n
    cases i with
    | zero => exact ⟨_, fun b hb => (List.mem_cons.mp hb).elim .inr fun z => .inl (List.mem_cons_of_mem _ z), .own h1 h2 (fun z => n (List.mem_cons_of_mem _ z)) t⟩
    | succ i =>
      obtain ⟨M', a1, b1⟩ := ih i (by simpa using hi) (fun z => n (List.mem_cons_of_mem _ z))
      refine ⟨c :: M', fun b hb => ?_, .own h d (fun z => (a1 _ z).elim m fun w => n (w ▸ List.mem_cons_self)) b1⟩
      rcases List.mem_cons.mp hb with z | z
      · exact .inl (z ▸ List.mem_cons_self)
      · exact (a1 b z).elim (fun w => .inl (List.mem_cons_of_mem _ w)) .inr
theorem kp_addCons : Kp (Mu (Z.add p) M) H (Mu Z (p :: M)) H := fun a u e n => ⟨e, fun q => n (mu_add.mpr (mu_cons.mp q))⟩
theorem Rel.own (r : Rel K (Z.add p) M σ H s) (h0 : Z.H0 p = none) (hpp : Z.p ≠ some p) (hm : ¬ Z.m0 p) {xs : List V} {ds : List PyData} (h1 : H p = some (.lst xs)) (h2 : DtAll K (Mu (Z.add p) M) H xs ds) (i : Nat) (hi : i < s.length) :
    ∃ M', Rel K Z M' (σ.set i (some (.ref p))) H (s.set i (.own ds)) ∧ ∀ c ∈ M', c ∈ M ∨ c = p := by
  have n : p ∉ M := fun z => (r.fr p z).2.2.1 (.inr rfl)
  obtain ⟨M', a, b⟩ := r.sl.setOwn h1 h2 i hi n
  have k : Kp (Mu (Z.add p) M) H (Mu Z M') H := fun c u e nn => ⟨e, fun q => nn (mu_add.mpr (by
    rcases q with q | q | q
    · exact .inl (.inl q)
    · exact .inl (.inr (.inl q))
    · exact (a c q).elim (fun w => .inl (.inr (.inr w))) .inr))⟩
  refine ⟨M', ⟨r.base, fun c hc => ?_, fun a h => r.mz a (.inl h), r.pt, b.kp k (M := M') (fun _ _ _ e => e) (fun _ _ _ e => e) (fun _ h => h)⟩, a⟩
  rcases a c hc with h | h
  · obtain ⟨h1, h2, h3, h4⟩ := r.fr c h
    exact ⟨h1, h2, fun q => h3 (.inl q), h4⟩
  · subst h
    exact ⟨h0, hpp, hm, _, h1⟩
end

/-! ### new lists -/
abbrev DF := Sl → Option (List PyData × Sl)
def lfF (K : PySem.W.Frag) (Z : Par) (f : DF) : TE := fun σ H Q => ∃ M s ds s', Rel K Z M σ H s ∧ f s = some (ds, s') ∧
  ∀ p xs H', H p = none → H' p = some (.lst xs) → Kq Z M H M H' → Rel K (Z.add p) M σ H' s' → DtAll K (Mu (Z.add p) M) H' xs ds → Q (.ref p) H'
def dL (f : DF) : DE := fun s => (f s).map fun p => (.list p.1, p.2)
def fLst (g : DA) : DF := fun s => (g s).bind fun p => if p.1.length ≤ sizeLine then some p else none
section
variable {X : Cx} {Z : Par} {a b e : Expr} {es : List Expr} {pos : Pos} {fa fb fc : DE} {ff : DF} {ga : DA}
theorem kp_free {mu mu' : Addr → Prop} {H H' : Hp} (hm : ∀ a, mu a → ∃ o, H a = some o) {p : Addr} (h : Kp mu H mu' H') : True := trivial
theorem dfr (h : PE X e (lfF X.K Z ff)) : PE X e (lft X.K Z (dL ff)) := PEimp h fun σ H Q h => by
  obtain ⟨M, s, d, s', rl, hf, k⟩ := h
  unfold dL at hf
  simp only [Option.map_eq_some_iff] at hf
  obtain ⟨⟨ds, s1⟩, h1, h2⟩ := hf
  cases h2
  refine ⟨M, s, ds, _, rl, h1, fun p xs H' hp hx k1 r1 t1 => k _ H' k1 r1.unadd (.lst (.inl hx) (fun q => ?_) (t1.mono kp_drop))⟩
  obtain ⟨o, e⟩ := rl.muT p q
  rw [hp] at e; cases e
theorem flst (h : PA X es (lfA X.K Z ga)) : PE X (.List es pos) (lfF X.K Z (fLst ga)) := PEimp (pe_lst h) fun σ H Q h => by
  obtain ⟨M, s, ds, s', rl, hf, k⟩ := h
  unfold fLst at hf
  simp only [Option.bind_eq_some_iff] at hf
  obtain ⟨⟨d1, s1⟩, h1, h2⟩ := hf
  dsimp only at h2
  split at h2
  · cases h2
    rename_i hz
    refine ⟨M, s, ds, _, rl, h1, fun vs H1 k1 r1 t1 => ⟨by rw [t1.len]; exact hz, fun p hp => ?_⟩⟩
    have hp0 : H p = none := by
      cases q : H p with
      | none => rfl
      | some o =>
        by_cases m : Mu Z M p
        · obtain ⟨u, e⟩ := r1.muT p m
          rw [hp] at e; cases e
        · have := (k1.kp p o q m).1
          rw [hp] at this; cases this
    exact k p vs _ hp0 upd_same (k1.trans (kq_grow (grow_new hp))) (r1.addNew hp _) (t1.mono (kp_addNew hp _))
  · cases h2
end

/-! ### statements -/
def sNil : DS := fun s => some (.nx s)
def sSeq (f g : DS) : DS := fun s => (f s).bind fun fl => match fl with
  | .nx s' => g s'
  | fl => some fl
def sSet (i : Nat) (f : DE) : DS := fun s => (f s).map fun p => .nx (p.2.set i (.dat p.1))
def sOwn (i : Nat) (f : DF) : DS := fun s => (f s).bind fun p => if i < p.2.length then some (.nx (p.2.set i (.own p.1))) else none
def sRet (f : DE) : DS := fun s => (f s).map fun p => .rt p.1 p.2
def sRetN : DS := fun s => some (.rt .none s)
def sIf (t : DT) (f g : DS) : DS := fun s => (t s).bind fun p => if p.1 = true then f p.2 else g p.2
def sDrop (f : DE) : DS := fun s => (f s).map fun p => .nx p.2
def sCont : DS := fun s => some (.ct s)
def sBrk : DS := fun s => some (.bk s)
/-- a name's own list is data from here on -/
def sFrz (i : Nat) : DS := fun s => match s[i]? with
  | some (.own ds) => some (.nx (s.set i (.dat (.list ds))))
  | _ => none
section
variable {X : Cx} {Z : Par} {a b e : Expr} {es : List Expr} {pos : Pos} {fa fb fc : DE} {ff : DF} {ga : DA} {st : Stmt} {sts : List Stmt} {f g : DS} {t : DT}
theorem FlOk.mono {K : PySem.W.Frag} {m0 m1 : List Addr} {H0 H1 : Hp} {D : Ends} (k : Kq Z m0 H0 m1 H1) : ∀ {fl : Fl}, FlOk K Z m0 H0 D fl → FlOk K Z m1 H1 D fl
  | .nx _, h => fun M σ H k1 r => h M σ H (k.trans k1) r
  | .rt _ _, h => fun M σ H v k1 r => h M σ H v (k.trans k1) r
  | .bk _, h => fun M σ H k1 r => h M σ H (k.trans k1) r
  | .ct _, h => fun M σ H k1 r => h M σ H (k.trans k1) r
theorem snil : PSs X [] (lfS X.K Z sNil) := PSsimp pss_nil fun D σ H h => by
  obtain ⟨M, s, fl, rl, hf, k⟩ := h
  cases hf
  exact k M σ H (Kq.refl _ _ _) rl
theorem lift_seq {K : PySem.W.Frag} {D : Ends} {σ : L2.St} {H : Hp} (h : lfS K Z (sSeq f g) D σ H) : tSeq (lfS K Z f) (lfS K Z g) D σ H := by
  obtain ⟨M, s, fl, rl, hf, k⟩ := h
  unfold sSeq at hf
  simp only [Option.bind_eq_some_iff] at hf
  obtain ⟨fl1, h1, h2⟩ := hf
  refine ⟨M, s, fl1, rl, h1, ?_⟩
  cases fl1 with
  | nx s1 => exact fun M1 σ1 H1 k1 r1 => ⟨M1, s1, fl, r1, h2, k.mono k1⟩
  | rt d s1 => cases h2; exact k
  | bk s1 => cases h2; exact k
  | ct s1 => cases h2; exact k
theorem scons (h1 : PS X st (lfS X.K Z f)) (h2 : PSs X sts (lfS X.K Z g)) : PSs X (st :: sts) (lfS X.K Z (sSeq f g)) := PSsimp (pss_cons h1 h2) fun _ _ _ h => lift_seq h
theorem sone (h1 : PS X st (lfS X.K Z f)) : PSs X [st] (lfS X.K Z f) := pss_one h1
theorem sset {i : Nat} {x : Str} {pos' : Pos} (hN : X.N.Nodup) (hi : X.N[i]? = some x) (hx : Loc X.env.scope x) (he : PE X e (lft X.K Z fa)) (hs : swapsWith e (some (.Name x pos')) pos.line X.env = pure false := by rfl)
    (hf : X.fn x = true ∨ X.env.scope.names.lookup x = some .local := by first | exact .inl rfl | exact .inr rfl | assumption) : PS X (.Assign [.Name x pos'] e pos) (lfS X.K Z (sSet i fa)) := PSimp (ps_set hN hi hx he hs hf) fun D σ H h => by
  obtain ⟨M, s, fl, rl, h1, k⟩ := h
  unfold sSet at h1
  simp only [Option.map_eq_some_iff] at h1
  obtain ⟨⟨d, s1⟩, h1, h2⟩ := h1
  cases h2
  refine ⟨M, s, d, s1, rl, h1, fun v H1 k1 r1 t1 => ?_⟩
  obtain ⟨M', _, r2, k2⟩ := r1.setDat t1 i
  exact k M' _ H1 (k1.trans k2) r2
theorem sown {i : Nat} {x : Str} {pos' : Pos} (hN : X.N.Nodup) (hi : X.N[i]? = some x) (hx : Loc X.env.scope x) (he : PE X e (lfF X.K Z ff)) (hs : swapsWith e (some (.Name x pos')) pos.line X.env = pure false := by rfl)
    (hf : X.fn x = true ∨ X.env.scope.names.lookup x = some .local := by first | exact .inl rfl | exact .inr rfl | assumption) : PS X (.Assign [.Name x pos'] e pos) (lfS X.K Z (sOwn i ff)) := PSimp (ps_set hN hi hx he hs hf) fun D σ H h => by
  obtain ⟨M, s, fl, rl, h1, k⟩ := h
  unfold sOwn at h1
  simp only [Option.bind_eq_some_iff] at h1
  obtain ⟨⟨ds, s1⟩, h1, h2⟩ := h1
  dsimp only at h2
  split at h2
  · cases h2
    rename_i hlt
    refine ⟨M, s, ds, s1, rl, h1, fun p xs H1 hp hx k1 r1 t1 => ?_⟩
    have npp : Z.p ≠ some p := fun z => by
      obtain ⟨o, e⟩ := rl.pt p z
      rw [hp] at e; cases e
    have n0 : Z.H0 p = none := by
      cases q : Z.H0 p with
      | none => rfl
      | some o =>
        have := rl.base p o q npp
        rw [hp] at this; cases this
    have nm : ¬ Z.m0 p := fun z => by
      obtain ⟨o, e⟩ := rl.mz p z
      rw [hp] at e; cases e
    obtain ⟨M', r2, k2⟩ := r1.own n0 npp nm hx t1 i hlt
    exact k M' _ H1 (fun c u e n1 n2 => ⟨(k1 c u e n1 n2).1, fun z => (k2 c z).elim n2 (ne_of_none e hp)⟩) r2
  · cases h2
theorem sret (he : PE X e (lft X.K Z fa)) : PS X (.Return (some e) pos) (lfS X.K Z (sRet fa)) := PSimp (ps_ret he) fun D σ H h => by
  obtain ⟨M, s, fl, rl, h1, k⟩ := h
  unfold sRet at h1
  simp only [Option.map_eq_some_iff] at h1
  obtain ⟨⟨d, s1⟩, h1, h2⟩ := h1
  cases h2
  exact ⟨M, s, d, s1, rl, h1, fun v H1 k1 r1 t1 => k M σ H1 v k1 r1 t1⟩
theorem sretN : PS X (.Return none pos) (lfS X.K Z sRetN) := PSimp ps_retN fun D σ H h => by
  obtain ⟨M, s, fl, rl, h1, k⟩ := h
  cases h1
  exact k M σ H _ (Kq.refl _ _ _) rl .non
theorem sif {c : Expr} {xs ys : List Stmt} (hc : PT X c (lfT X.K Z t)) (ha : PSs X xs (lfS X.K Z f)) (hb : PSs X ys (lfS X.K Z g)) : PS X (.If c xs ys pos) (lfS X.K Z (sIf t f g)) := PSimp (ps_if hc ha hb) fun D σ H h => by
  obtain ⟨M, s, fl, rl, h1, k⟩ := h
  unfold sIf at h1
  simp only [Option.bind_eq_some_iff] at h1
  obtain ⟨⟨c1, s1⟩, h1, h2⟩ := h1
  refine ⟨M, s, c1, s1, rl, h1, fun H1 k1 r1 => ?_⟩
  cases c1 with
  | true => exact ⟨M, s1, fl, r1, h2, k.mono k1⟩
  | false => exact ⟨M, s1, fl, r1, h2, k.mono k1⟩
theorem sdrop (he : PE X e (lft X.K Z fa)) (hs : swapsWith e none pos.line X.env = pure false := by rfl) : PS X (.Expr e pos) (lfS X.K Z (sDrop fa)) := PSimp (ps_expr he hs) fun D σ H h => by
  obtain ⟨M, s, fl, rl, h1, k⟩ := h
  unfold sDrop at h1
  simp only [Option.map_eq_some_iff] at h1
  obtain ⟨⟨d, s1⟩, h1, h2⟩ := h1
  cases h2
  exact ⟨M, s, d, s1, rl, h1, fun v H1 k1 r1 t1 => k M σ H1 k1 r1⟩
theorem scont : PS X (.Continue pos) (lfS X.K Z sCont) := PSimp ps_continue fun D σ H h => by
  obtain ⟨M, s, fl, rl, h1, k⟩ := h
  cases h1
  exact k M σ H (Kq.refl _ _ _) rl
theorem sbrk : PS X (.Break pos) (lfS X.K Z sBrk) := PSimp ps_break fun D σ H h => by
  obtain ⟨M, s, fl, rl, h1, k⟩ := h
  cases h1
  exact k M σ H (Kq.refl _ _ _) rl
/-- .. freezing -/
theorem SlAll.frz {K : PySem.W.Frag} {mu : Addr → Prop} {q : Option Addr} {H : Hp} {ds : List PyData} : ∀ {σ : L2.St} {s : Sl} {M : List Addr} (i : Nat), SlAll K mu q H σ s M → s[i]? = some (.own ds) →
    ∃ a xs M', σ[i]? = some (some (.ref a)) ∧ H a = some (.lst xs) ∧ DtAll K mu H xs ds ∧ a ∈ M ∧ a ∉ M' ∧ (∀ b ∈ M', b ∈ M) ∧ (∀ mu', (∀ b, mu' b → mu b) → ¬ mu' a → SlAll K mu' q H σ (s.set i (.dat (.list ds))) M')
  | _, _, _, _, .nil, e => by simp at e
  | _, _, _, 0, .dat h t, e => by simp at e
  | _, _, _, 0, .no t, e => by simp at e
  | _, _, _, 0, .pot .., e => by simp at e
  | _, _, _, 0, .own (a := a) (xs := xs) h d n t, e => by
    simp at e
    subst e
    refine ⟨a, xs, _, rfl, h, d, List.mem_cons_self, n, fun b hb => List.mem_cons_of_mem _ hb, fun mu' hs hn => ?_⟩
    have k : Kp mu H mu' H := fun c u e nn => ⟨e, fun z => nn (hs c z)⟩
    exact .dat (.lst (.inl h) hn (d.mono k)) (t.kp k (fun _ _ _ e => e) (fun _ _ _ e => e) (fun _ h => h))
  | _, _, _, i + 1, .dat h t, e => by
    obtain ⟨a, xs, M', h1, h2, h3, h4, h5, h6, h7⟩ := SlAll.frz i t (by simpa using e)
    exact ⟨a, xs, M', by simpa using h1, h2, h3, h4, h5, h6, fun mu' hs hn => .dat (h.mono fun c u e nn => ⟨e, fun z => nn (hs c z)⟩) (h7 mu' hs hn)⟩
  | _, _, _, i + 1, .no t, e => by
    obtain ⟨a, xs, M', h1, h2, h3, h4, h5, h6, h7⟩ := SlAll.frz i t (by simpa using e)
    exact ⟨a, xs, M', by simpa using h1, h2, h3, h4, h5, h6, fun mu' hs hn => .no (h7 mu' hs hn)⟩
  | _, _, _, i + 1, .own (a := c) h d n t, e => by
    obtain ⟨a, xs, M', h1, h2, h3, h4, h5, h6, h7⟩ := SlAll.frz i t (by simpa using e)
    refine ⟨a, xs, c :: M', by simpa using h1, h2, h3, List.mem_cons_of_mem _ h4, fun z => (List.mem_cons.mp z).elim (fun w => n (w ▸ h4)) h5, fun b hb => (List.mem_cons.mp hb).elim (fun w => w ▸ List.mem_cons_self) fun w => List.mem_cons_of_mem _ (h6 b w), fun mu' hs hn => ?_⟩
    exact .own h (d.mono fun c u e nn => ⟨e, fun z => nn (hs c z)⟩) (fun z => n (h6 c z)) (h7 mu' hs hn)
  | _, _, _, i + 1, .pot e1 h d t, e => by
    obtain ⟨a, xs, M', h1, h2, h3, h4, h5, h6, h7⟩ := SlAll.frz i t (by simpa using e)
    exact ⟨a, xs, M', by simpa using h1, h2, h3, h4, h5, h6, fun mu' hs hn => .pot e1 h (d.mono fun c u e nn => ⟨e, fun z => nn (hs c z)⟩) (h7 mu' hs hn)⟩
  | _, _, _, 0, .tab .., e => by simp at e
  | _, _, _, i + 1, .tab e1 h d f t, e => by
    obtain ⟨a, xs, M', h1, h2, h3, h4, h5, h6, h7⟩ := SlAll.frz i t (by simpa using e)
    exact ⟨a, xs, M', by simpa using h1, h2, h3, h4, h5, h6, fun mu' hs hn => .tab e1 h d (fun pos cv z => let ⟨c, g1, g2, g3⟩ := f pos cv z; ⟨c, g1, g2, fun w => g3 (hs c w)⟩) (h7 mu' hs hn)⟩
theorem sfrz {i : Nat} (h : PSs X sts (lfS X.K Z g)) : PSs X sts (lfS X.K Z (sSeq (sFrz i) g)) := PSsimp h fun D σ H h => by
  obtain ⟨M, s, fl, rl, h1, k⟩ := h
  unfold sSeq sFrz at h1
  simp only [Option.bind_eq_some_iff] at h1
  obtain ⟨fl1, h1, h2⟩ := h1
  split at h1
  · rename_i ds hs
    cases h1
    obtain ⟨a, xs, M', g1, g2, g3, g4, g5, g6, g7⟩ := rl.sl.frz i hs
    have sub : ∀ b, Mu Z M' b → Mu Z M b := fun b hb => by
      rcases hb with hb | hb | hb
      · exact .inl hb
      · exact .inr (.inl hb)
      · exact .inr (.inr (g6 b hb))
    have na : ¬ Mu Z M' a := fun hb => by
      rcases hb with hb | hb | hb
      · exact (rl.fr a g4).2.2.1 hb
      · exact (rl.fr a g4).2.1 hb
      · exact g5 hb
    have kk : Kq Z M H M' H := fun c u e _ nn => ⟨e, fun z => nn (g6 c z)⟩
    exact ⟨M', _, fl, ⟨rl.base, fun b hb => rl.fr b (g6 b hb), rl.mz, rl.pt, g7 _ sub na⟩, h2, k.mono kk⟩
  · cases h1
end
end Dl

namespace Dl
open PySem PySem.Spec PyProof.Rows L2

/-! ### lists that may be changed -/
def contents (s : Sl) (i : Nat) : Option (List PyData) := match s[i]? with
  | some (.own ds) => some ds
  | some (.pot ds) => some ds
  | _ => none
def potUp (ds : List PyData) : SV → SV
  | .pot _ => .pot ds
  | x => x
def setC (s : Sl) (i : Nat) (ds : List PyData) : Sl := match s[i]? with
  | some (.own _) => s.set i (.own ds)
  | some (.pot _) => s.map (potUp ds)
  | _ => s
section
variable {K : PySem.W.Frag} {Z : Par} {M M' : List Addr} {σ : L2.St} {H H' : Hp} {s s' : Sl} {p : Addr} {mu : Addr → Prop} {q : Option Addr}
theorem SlAll.wrOwn {ds' : List PyData} {xs' : List V} {a : Addr} (hk : Kp mu H mu H') (hs : ∀ b o, H b = some o → b ≠ a → H' b = some o) (h1 : H' a = some (.lst xs')) (h2 : DtAll K mu H' xs' ds') (hq : q ≠ some a) {M : List Addr} (t : SlAll K mu q H σ s M) :
    ∀ (i : Nat) (ds : List PyData), s[i]? = some (.own ds) → σ[i]? = some (some (.ref a)) → SlAll K mu q H' σ (s.set i (.own ds')) M := by
  have rest : ∀ {σ : L2.St} {s : Sl} {M : List Addr}, a ∉ M → SlAll K mu q H σ s M → SlAll K mu q H' σ s M := fun {σ s M} n t =>
    t.kp hk (M := M) (fun b xs hb e => hs b _ e (fun z => n (z ▸ hb))) (fun b xs hb e => hs b _ e (fun z => hq (z ▸ hb))) (fun _ h => h)
  induction t with
  | nil => intro i ds e; simp at e
  | dat h t ih =>
    intro i ds e f
    cases i with
    | zero => simp at e
    | succ i => exact .dat (h.mono hk) (ih i ds (by simpa using e) (by simpa using f))
  | no t ih =>
    intro i ds e f
    cases i with
    | zero => simp at e
    | succ i => exact .no (ih i ds (by simpa using e) (by simpa using f))
  | pot e0 h d t ih =>
    intro i ds e f
    cases i with
    | zero => simp at e
    | succ i => exact .pot e0 (hs _ _ h (fun z => hq (z ▸ e0))) (d.mono hk) (ih i ds (by simpa using e) (by simpa using f))
  | tab e0 h d w t ih =>
    intro i ds e f
    cases i with
    | zero => simp at e
    | succ i => exact .tab e0 (hs _ _ h (fun z => hq (z ▸ e0))) d (fun pos cv z => let ⟨c, g1, g2, g3⟩ := w pos cv z; ⟨c, g1, (hk _ _ g2 g3).1, (hk _ _ g2 g3).2⟩) (ih i ds (by simpa using e) (by simpa using f))
  | @own c ys es σ s M h d m t ih =>
    intro i ds e f
    cases i with
    | zero =>
      simp at f
      subst f
      exact .own h1 h2 m (rest m t)
    | succ i =>
      have nc : c ≠ a := fun z => by
        subst z
        obtain ⟨b, xs, g1, g2, _⟩ := t.getOwn (i := i) (by simpa using e)
        have : σ[i]? = some (some (.ref c)) := by simpa using f
        rw [this] at g1
        simp only [Option.some.injEq, V.ref.injEq] at g1
        exact m (g1 ▸ g2)
      exact .own (hs _ _ h nc) (d.mono hk) m (ih i ds (by simpa using e) (by simpa using f))
theorem SlAll.wrPot {ds' : List PyData} {xs' : List V} {a : Addr} (hk : Kp mu H mu H') (hs : ∀ b o, H b = some o → b ≠ a → H' b = some o) (h1 : H' a = some (.lst xs')) (h2 : DtAll K mu H' xs' ds') (hq : q = some a) (hl : ∃ xs, H a = some (.lst xs)) {M : List Addr} (t : SlAll K mu q H σ s M) (n : a ∉ M) :
    SlAll K mu q H' σ (s.map (potUp ds')) M := by
  induction t with
  | nil => exact .nil
  | dat h t ih => exact .dat (h.mono hk) (ih n)
  | no t ih => exact .no (ih n)
  | pot e0 h d t ih =>
    rw [hq] at e0
    cases e0
    exact .pot hq h1 h2 (ih n)
  | tab e0 h d w t ih =>
    rw [hq] at e0
    cases e0
    obtain ⟨xs, hl⟩ := hl
    rw [hl] at h
    cases h
  | own h d m t ih => exact .own (hs _ _ h (fun z => n (z ▸ List.mem_cons_self))) (d.mono hk) m (ih (fun z => n (List.mem_cons_of_mem _ z)))
theorem Rel.at (r : Rel K Z M σ H s) {i : Nat} {ds : List PyData} (h : contents s i = some ds) : ∃ a xs, σ[i]? = some (some (.ref a)) ∧ H a = some (.lst xs) ∧ DtAll K (Mu Z M) H xs ds ∧ Mu Z M a ∧
    ∀ H' xs' ds', H' a = some (.lst xs') → (∀ b o, H b = some o → b ≠ a → H' b = some o) → DtAll K (Mu Z M) H' xs' ds' → Rel K Z M σ H' (setC s i ds') ∧ Kq Z M H M H' := by
  unfold contents at h
  split at h
  · rename_i es hs
    cases h
    obtain ⟨a, xs, h1, h2, h3, h4⟩ := r.sl.getOwn hs
    have hmu : Mu Z M a := .inr (.inr h2)
    refine ⟨a, xs, h1, h3, h4, hmu, fun H' xs' ds' e1 e2 e3 => ?_⟩
    have k : Kp (Mu Z M) H (Mu Z M) H' := fun b o e n => ⟨e2 b o e (fun z => n (z ▸ hmu)), n⟩
    have ex : ∀ b o, H b = some o → ∃ u, H' b = some u := fun b o e => by
      by_cases z : b = a
      · rw [z]; exact ⟨_, e1⟩
      · exact ⟨o, e2 b o e z⟩
    refine ⟨⟨fun b o e n => e2 b o (r.base b o e n) (fun z => ?_), fun b hb => let ⟨f1, f2, f3, u, f4⟩ := r.fr b hb; ⟨f1, f2, f3, ex b u f4⟩, fun b hb => let ⟨u, f⟩ := r.mz b hb; ex b u f, fun b hb => let ⟨u, f⟩ := r.pt b hb; ex b u f, ?_⟩, fun b o e _ n => ⟨e2 b o e (fun z => n (z ▸ h2)), n⟩⟩
    · rw [z, (r.fr a h2).1] at e; cases e
    · unfold setC
      rw [hs]
      exact r.sl.wrOwn k e2 e1 e3 (r.fr a h2).2.1 i ds hs h1
  · rename_i es hs
    cases h
    obtain ⟨a, xs, h1, h2, h3, h4⟩ := r.sl.getPot hs
    have hmu : Mu Z M a := .inr (.inl h2)
    refine ⟨a, xs, h1, h3, h4, hmu, fun H' xs' ds' e1 e2 e3 => ?_⟩
    have k : Kp (Mu Z M) H (Mu Z M) H' := fun b o e n => ⟨e2 b o e (fun z => n (z ▸ hmu)), n⟩
    have ex : ∀ b o, H b = some o → ∃ u, H' b = some u := fun b o e => by
      by_cases z : b = a
      · rw [z]; exact ⟨_, e1⟩
      · exact ⟨o, e2 b o e z⟩
    refine ⟨⟨fun b o e n => e2 b o (r.base b o e n) (fun z => n (z ▸ h2)), fun b hb => let ⟨f1, f2, f3, u, f4⟩ := r.fr b hb; ⟨f1, f2, f3, ex b u f4⟩, fun b hb => let ⟨u, f⟩ := r.mz b hb; ex b u f, fun b hb => let ⟨u, f⟩ := r.pt b hb; ex b u f, ?_⟩, fun b o e n m => ⟨e2 b o e (fun z => n (z ▸ h2)), m⟩⟩
    unfold setC
    rw [hs]
    exact r.sl.wrPot k e2 e1 e3 h2 ⟨xs, h3⟩ (fun z => (r.fr a z).2.1 h2)
  · cases h
end

/-- x[e], x a list that may be changed -/
def dIxC (i : Nat) (f : DE) : DE := fun s => (contents s i).bind fun _ => (f s).bind fun p => (contents p.2 i).bind fun ds => match p.1 with
  | .int k => (atI ds k).map fun d => (d, p.2)
  | _ => none
theorem atI_dt {K : PySem.W.Frag} {mu : Addr → Prop} {H : Hp} {xs : List V} {ds : List PyData} {k : Int} {d : PyData} (t : DtAll K mu H xs ds) (h : atI ds k = some d) : ∃ v, atI xs k = some v ∧ Dt K mu H v d := by
  unfold atI at h ⊢
  rw [t.len]
  simp only [Option.bind_eq_some_iff] at h ⊢
  obtain ⟨j, h1, h2⟩ := h
  obtain ⟨v, h3, h4⟩ := t.get h2
  exact ⟨v, ⟨j, h1, h3⟩, h4⟩
/-- texts, numbers, truths, None -/
def scalD : PyData → Bool
  | .none => true
  | .bool _ => true
  | .int _ => true
  | .str _ => true
  | _ => false
/-- e in x -/
def dInC (neg : Bool) (f : DE) (i : Nat) : DE := fun s => (f s).bind fun p => (contents p.2 i).bind fun ds => if scalD p.1 = true ∧ ds.all scalD = true then some (.bool (if neg then !ds.any (fun z => PyData.eqv z p.1) else ds.any fun z => PyData.eqv z p.1), p.2) else none
/-- x.append(e) -/
def sApp (i : Nat) (f : DE) : DS := fun s => (contents s i).bind fun _ => (f s).bind fun p => (contents p.2 i).bind fun ds => if ds.length < sizeLine then some (.nx (setC p.2 i (ds ++ [p.1]))) else none
/-- x[g] = f -/
def sSetIx (i : Nat) (f g : DE) : DS := fun s => (f s).bind fun p => (contents p.2 i).bind fun _ => (g p.2).bind fun q => (contents q.2 i).bind fun ds => match q.1 with
  | .int k => (ixN ds.length k).map fun j => .nx (setC q.2 i (ds.set j p.1))
  | _ => none
section
variable {X : Cx} {Z : Par} {a b e : Expr} {es : List Expr} {pos : Pos} {fa fb fc : DE} {ff : DF} {ga : DA} {st : Stmt} {sts : List Stmt} {f g : DS} {t : DT}
theorem dixC (i : Nat) (ha : PE X a (tVar i)) (hb : PE X b (lft X.K Z fb)) (hs : PlainIx b := by exact fun _ _ => rfl) : PE X (.Subscript a b pos) (lft X.K Z (dIxC i fb)) := PEimp (pe_ix ix_list ha hb hs) fun σ H Q h => by
  obtain ⟨M, s, d, s', rl, hf, k⟩ := h
  unfold dIxC at hf
  simp only [Option.bind_eq_some_iff] at hf
  obtain ⟨ds0, h0, ⟨d1, s1⟩, h1, ds, h2, h3⟩ := hf
  dsimp only at h2 h3
  split at h3
  · rename_i kk
    simp only [Option.map_eq_some_iff] at h3
    obtain ⟨d2, h3, h4⟩ := h3
    cases h4
    obtain ⟨a0, xs0, g1, _⟩ := rl.at h0
    refine ⟨.ref a0, g1, M, s, _, _, rl, h1, fun v H1 k1 r1 t1 => ?_⟩
    obtain ⟨a1, xs, e1, e2, e3, _⟩ := r1.at h2
    rw [g1] at e1
    cases e1
    obtain ⟨v2, e4, e5⟩ := atI_dt e3 h3
    exact ⟨a0, xs, kk, v2, rfl, t1.inti, .inl (.inl e2), e4, k _ H1 k1 r1 e5⟩
  · cases h3
theorem scal_v {K : PySem.W.Frag} {mu : Addr → Prop} {H : Hp} {v : V} {d : PyData} (t : Dt K mu H v d) (h : scalD d = true) : flatV v = true := by
  cases t <;> first | rfl | (exact absurd h (by simp [scalD]))
theorem scal_vs {K : PySem.W.Frag} {mu : Addr → Prop} {H : Hp} : ∀ {vs : List V} {ds : List PyData}, DtAll K mu H vs ds → ds.all scalD = true → vs.all flatV = true
  | _, _, .nil, _ => rfl
  | _, _, .cons h t, e => by
    rw [List.all_cons, Bool.and_eq_true] at e ⊢
    exact ⟨scal_v h e.1, scal_vs t e.2⟩
theorem scal_eq {K : PySem.W.Frag} {mu : Addr → Prop} {H : Hp} {v w : V} {d e : PyData} (t : Dt K mu H v d) (u : Dt K mu H w e) (h : scalD d = true) (h' : scalD e = true) : eqV v w = PyData.eqv d e := by
  cases d with
  | list _ => cases h
  | tuple _ => cases h
  | dict _ => cases h
  | none => cases t; cases e <;> first | (cases h'; done) | (cases u; simp [eqV, PyData.eqv])
  | bool _ => cases t; cases e <;> first | (cases h'; done) | (cases u; simp [eqV, PyData.eqv])
  | int _ => cases t; cases e <;> first | (cases h'; done) | (cases u; simp [eqV, PyData.eqv])
  | str _ => cases t; cases e <;> first | (cases h'; done) | (cases u; simp [eqV, PyData.eqv])
theorem scal_any {K : PySem.W.Frag} {mu : Addr → Prop} {H : Hp} {v : V} {d : PyData} (u : Dt K mu H v d) (h : scalD d = true) : ∀ {vs : List V} {ds : List PyData}, DtAll K mu H vs ds → ds.all scalD = true → inV v vs = ds.any fun z => PyData.eqv z d
  | _, _, .nil, _ => rfl
  | _, _, .cons g t, e => by
    rw [List.all_cons, Bool.and_eq_true] at e
    have ih := scal_any u h t e.2
    unfold inV at ih ⊢
    rw [List.any_cons, List.any_cons, ih, scal_eq g u e.1 h]
theorem dinC (neg : Bool) {op : CmpOp} (hop : OpR X (compareOp op) (rIn X.K neg)) (i : Nat) (ha : PE X a (lft X.K Z fa)) (hb : PE X b (tVar i)) (hm : behindInMarks op b = false) : PE X (.Compare a [op] [b] pos) (lft X.K Z (dInC neg fa i)) := PEimp (pe_cmpR hop ha hb hm) fun σ H Q h => by
  obtain ⟨M, s, d, s', rl, hf, k⟩ := h
  unfold dInC at hf
  simp only [Option.bind_eq_some_iff] at hf
  obtain ⟨⟨d1, s1⟩, h1, ds, h2, h3⟩ := hf
  dsimp only at h2 h3
  split at h3
  · rename_i hc
    cases h3
    refine ⟨M, s, d1, _, rl, h1, fun v H1 k1 r1 t1 => ?_⟩
    obtain ⟨a1, xs, e1, e2, e3, _⟩ := r1.at h2
    refine ⟨.ref a1, e1, a1, xs, rfl, .inl (.inl (.inl e2)), scal_v t1 hc.1, scal_vs e3 hc.2, ?_⟩
    rw [scal_any t1 hc.1 e3 hc.2]
    exact k _ H1 k1 r1 (.bl _)
  · cases h3
theorem dtinC (neg : Bool) {op : CmpOp} (hop : OpR X (compareOp op) (rIn X.K neg)) (i : Nat) (ha : PE X a (lft X.K Z fa)) (hb : PE X b (tVar i)) (hm : behindInMarks op b = false) : PT X (.Compare a [op] [b] pos) (lfT X.K Z (dTst (dInC neg fa i))) := PTimp (pt_cmpR hop ha hb hm) fun σ H Q h => by
  obtain ⟨M, s, d, s', rl, hf, k⟩ := h
  have hf := dTst_some hf
  unfold dInC at hf
  simp only [Option.bind_eq_some_iff] at hf
  obtain ⟨⟨d1, s1⟩, h1, ds, h2, h3⟩ := hf
  dsimp only at h2 h3
  split at h3
  · rename_i hc
    simp only [Option.some.injEq, Prod.mk.injEq, PyData.bool.injEq] at h3
    obtain ⟨h3, rfl⟩ := h3
    refine ⟨M, s, d1, _, rl, h1, fun v H1 k1 r1 t1 => ?_⟩
    obtain ⟨a1, xs, e1, e2, e3, _⟩ := r1.at h2
    refine ⟨.ref a1, e1, a1, xs, rfl, .inl (.inl (.inl e2)), scal_v t1 hc.1, scal_vs e3 hc.2, ?_⟩
    rw [scal_any t1 hc.1 e3 hc.2]
    exact ⟨_, rfl, by rw [h3]; exact k H1 k1 r1⟩
  · cases h3
theorem upd_lst {H : Hp} {a : Addr} {o : HO} : ∀ b u, H b = some u → b ≠ a → (upd H a o) b = some u := fun b u e n => by rw [upd_ne n]; exact e
theorem sapp (i : Nat) {apos cpos : Pos} (ha : PE X a (tVar i)) (hb : PE X b (lft X.K Z fb)) (hbase : attributeBase a "append" X.env (eval a X.env) = eval a X.env := by rfl)
    (hfew : ((backTo cpos (starEach [b] X.env)).all (fun x => !x.1) && (backToKw cpos (keywordEach [] X.env)).all (fun x => x.1.isSome) && decide (([b] : List Expr).length + ([] : List Keyword).length + (if ([] : List Keyword).isEmpty then 0 else 1) < 30)) = true := by rfl)
    (hline : (apos.endLine == cpos.line) = true := by rfl) (hs : starEach [b] X.env = (false, eval b X.env) :: starEach [] X.env := by rfl) (hplain : (backTo cpos (starEach [] X.env)).any (·.1) = false := by rfl)
    (hsw : swapsWith (.Call (.Attribute a "append" apos) [b] [] cpos) none pos.line X.env = pure false := by rfl) :
    PS X (.Expr (.Call (.Attribute a "append" apos) [b] [] cpos) pos) (lfS X.K Z (sApp i fb)) := PSimp (ps_expr (pe_bm PySem.F.plainAttrs_list PySem.F.slot_list_append PySem.F.type_list_append mt_append ha (pa_cons hb pa_nil hs) hbase hfew hline hs hplain) hsw) fun D σ H h => by
  obtain ⟨M, s, fl, rl, hf, k⟩ := h
  unfold sApp at hf
  simp only [Option.bind_eq_some_iff] at hf
  obtain ⟨ds0, h0, ⟨d1, s1⟩, h1, ds, h2, h3⟩ := hf
  dsimp only at h2 h3
  split at h3
  · rename_i hz
    cases h3
    obtain ⟨a0, xs0, g1, g2, _⟩ := rl.at h0
    refine ⟨.ref a0, g1, .inl ⟨rfl, _, .inl (.inl g2)⟩, M, s, d1, s1, rl, h1, fun v H1 k1 r1 t1 => ?_⟩
    obtain ⟨a1, xs, e1, e2, e3, _, e5⟩ := r1.at h2
    rw [g1] at e1
    cases e1
    refine ⟨a0, xs, v, rfl, rfl, e2, by rw [e3.len]; exact hz, ?_⟩
    have kk : Kp (Mu Z M) H1 (Mu Z M) (upd H1 a0 (.lst (xs ++ [v]))) := fun b o e n => ⟨upd_lst b o e (fun z => n (by subst z; assumption)), n⟩
    obtain ⟨r2, k2⟩ := e5 (upd H1 a0 (.lst (xs ++ [v]))) (xs ++ [v]) (ds ++ [d1]) upd_same upd_lst ((e3.append (.cons t1 .nil)).mono kk)
    exact k M σ _ (k1.trans k2) r2
  · cases h3
theorem ssetIx (i : Nat) {e1 c : Expr} {p1 : Pos} {fe fc : DE} (he : PE X e1 (lft X.K Z fe)) (ha : PE X a (tVar i)) (hc : PE X c (lft X.K Z fc))
    (h4 : ∀ v, assign (.Subscript a c p1) X.env v = (do
      let ov ← holding [v] (eval a X.env)
      let iv ← holding [v, ov] (eval c X.env)
      standAt p1
      holding [v, ov, iv] (setItem ov iv v)
      release [v, ov, iv] []) := by intro _; rfl)
    (hs : swapsWithSole [.Subscript a c p1] e1 pos.line X.env = pure false := by rfl) (hw : swappedStores [.Subscript a c p1] e1 X.env = pure none := by rfl) (h1 : (assignEach [.Subscript a c p1] X.env).map (·.2) = [assign (.Subscript a c p1) X.env] := by rfl) :
    PS X (.Assign [.Subscript a c p1] e1 pos) (lfS X.K Z (sSetIx i fe fc)) := PSimp (ps_asg he (pg_sub ha hc set_list h4) hs hw h1) fun D σ H h => by
  obtain ⟨M, s, fl, rl, hf, k⟩ := h
  unfold sSetIx at hf
  simp only [Option.bind_eq_some_iff] at hf
  obtain ⟨⟨d1, s1⟩, h1, ds0, h0, ⟨d2, s2⟩, h2, ds, h3, h4⟩ := hf
  dsimp only at h0 h2 h3 h4
  split at h4
  · rename_i kk
    simp only [Option.map_eq_some_iff] at h4
    obtain ⟨j, h4, h5⟩ := h4
    cases h5
    refine ⟨M, s, d1, _, rl, h1, fun v H1 k1 r1 t1 => ?_⟩
    obtain ⟨a0, xs0, g1, g2, _⟩ := r1.at h0
    refine ⟨.ref a0, g1, M, s1, _, s2, r1, h2, fun w H2 k2 r2 t2 => ?_⟩
    obtain ⟨a1, xs, e1, e2, e3, _, e5⟩ := r2.at h3
    rw [g1] at e1
    cases e1
    refine ⟨a0, xs, kk, j, rfl, t2.inti, e2, by rw [e3.len]; exact h4, ?_⟩
    have kk : Kp (Mu Z M) H2 (Mu Z M) (upd H2 a0 (.lst (xs.set j v))) := fun b o e n => ⟨upd_lst b o e (fun z => n (by subst z; assumption)), n⟩
    obtain ⟨r3, k3⟩ := e5 (upd H2 a0 (.lst (xs.set j v))) (xs.set j v) (ds.set j d1) upd_same upd_lst ((DtAll.set (t1.mono k2.kp) j e3).mono kk)
    exact k M σ _ (k1.trans (k2.trans k3)) r3
  · cases h4
end
end Dl

namespace Dl
open PySem PySem.Spec PyProof.Rows L2

/-! ### what is walked -/
def Yields (K : PySem.W.Frag) (mu : Addr → Prop) (H : Hp) (J : It) (ds : List PyData) : Prop := ∀ mu' H', Kp mu H mu' H' → ∀ i, (i < ds.length → J.go i H' ∧ ∀ x H'', J.yld i H' x H'' → H'' = H' ∧ ∃ d, ds[i]? = some d ∧ Dt K mu' H' x d) ∧ (ds.length ≤ i → J.stop i H')
theorem Yields.mono {K : PySem.W.Frag} {mu mu' : Addr → Prop} {H H' : Hp} {J : It} {ds : List PyData} (h : Yields K mu H J ds) (k : Kp mu H mu' H') : Yields K mu' H' J ds := fun m2 H2 k2 i => h m2 H2 (k.trans k2) i
def lfI (K : PySem.W.Frag) (Z : Par) (f : DF) : TI := fun σ H R => ∃ M s ds s', Rel K Z M σ H s ∧ f s = some (ds, s') ∧ ∀ J H', Kq Z M H M H' → Rel K Z M σ H' s' → Yields K (Mu Z M) H' J ds → R J H'
theorem PIimp {X : Cx} {tg e : Expr} {t t' : TI} (h : PI X tg e t) (i : ∀ σ H Q, t' σ H Q → t σ H Q) : PI X tg e t' := ⟨fun pins s σ H Q I q => h.run pins s σ H Q I (i σ H Q q)⟩
/-- a list, a tuple, a text's signs, a range's numbers -/
def itL (f : DE) : DF := fun s => (f s).bind fun p => match p.1 with
  | .list ds => some (ds, p.2)
  | _ => none
def itT (f : DE) : DF := fun s => (f s).bind fun p => match p.1 with
  | .tuple ds => some (ds, p.2)
  | _ => none
def signs (x : Str) : List PyData := x.cps.toList.map fun c => .str ⟨#[c]⟩
def itS (f : DE) : DF := fun s => (f s).bind fun p => match p.1 with
  | .str x => some (signs x, p.2)
  | _ => none
def rng (lo n : Int) : List PyData := (List.range (n - lo).toNat).map fun (k : Nat) => .int (lo + (k : Int))
def itR1 (f : DE) : DF := fun s => (f s).bind fun p => match p.1 with
  | .int n => if -(2 ^ 62) ≤ n ∧ n < 2 ^ 62 then some (rng 0 n, p.2) else none
  | _ => none
def itR2 (f g : DE) : DF := fun s => (f s).bind fun p => (g p.2).bind fun q => match p.1, q.1 with
  | .int lo, .int n => if (-(2 ^ 62) ≤ lo ∧ lo < 2 ^ 62) ∧ -(2 ^ 62) ≤ n ∧ n < 2 ^ 62 then some (rng lo n, q.2) else none
  | _, _ => none
section
variable {K : PySem.W.Frag} {mu : Addr → Prop} {H : Hp}
theorem yields_list {a : Addr} {ds : List PyData} (t : Dt K mu H (.ref a) (.list ds)) : Yields K mu H (Itl K a) ds := fun mu' H' k i => by
  obtain ⟨b, xs, e, h1, h2⟩ := (t.mono k).list
  cases e
  constructor
  · intro hi
    obtain ⟨v, g1, g2⟩ := h2.get (List.getElem?_eq_getElem hi)
    refine ⟨⟨xs, v, h1, g1⟩, fun x H'' hy => ⟨hy.1, _, List.getElem?_eq_getElem hi, ?_⟩⟩
    have e := hy.2 xs h1
    rw [g1] at e
    cases e
    exact g2
  · intro hi
    exact ⟨xs, h1, by rw [h2.len]; exact hi⟩
theorem yields_tup {a : Addr} {ds : List PyData} (t : Dt K mu H (.ref a) (.tuple ds)) : Yields K mu H (Itt K a) ds := fun mu' H' k i => by
  obtain ⟨b, xs, e, h1, h2⟩ := (t.mono k).tuple
  cases e
  constructor
  · intro hi
    obtain ⟨v, g1, g2⟩ := h2.get (List.getElem?_eq_getElem hi)
    refine ⟨⟨xs, v, h1, g1⟩, fun x H'' hy => ⟨hy.1, _, List.getElem?_eq_getElem hi, ?_⟩⟩
    have e := hy.2 xs h1
    rw [g1] at e
    cases e
    exact g2
  · intro hi
    exact ⟨xs, h1, by rw [h2.len]; exact hi⟩
theorem yields_str (x : Str) : Yields K mu H (Its x) (signs x) := fun mu' H' k i => by
  have hl : (signs x).length = x.cps.size := by unfold signs; rw [List.length_map, Array.length_toList]
  constructor
  · intro hi
    rw [hl] at hi
    refine ⟨hi, fun v H'' hy => ⟨hy.1, ?_⟩⟩
    obtain ⟨c, e1, e2⟩ := hy.2
    refine ⟨.str ⟨#[c]⟩, ?_, by rw [e2]; exact .str _⟩
    unfold signs
    rw [List.getElem?_map, Array.getElem?_toList, e1]
    rfl
  · intro hi
    rw [hl] at hi
    exact hi
theorem yields_rng (lo n : Int) : Yields K mu H (Itr lo (n - lo).toNat) (rng lo n) := fun mu' H' k i => by
  have hl : (rng lo n).length = (n - lo).toNat := by unfold rng; rw [List.length_map, List.length_range]
  constructor
  · intro hi
    rw [hl] at hi
    refine ⟨hi, fun v H'' hy => ⟨hy.1, .int (lo + (i : Int)), ?_, by rw [hy.2]; exact .int _⟩⟩
    unfold rng
    rw [List.getElem?_map, List.getElem?_range hi]
    rfl
  · intro hi
    rw [hl] at hi
    exact hi
end
section
variable {X : Cx} {Z : Par} {tg a b e : Expr} {es : List Expr} {pos : Pos} {fa fb fc : DE} {ff : DF} {ga : DA} {st : Stmt} {sts : List Stmt} {f g : DS} {t : DT}
theorem pil (h : PE X e (lft X.K Z fa)) : PI X tg e (lfI X.K Z (itL fa)) := PIimp (pi_list h) fun σ H R h => by
  obtain ⟨M, s, ds, s', rl, hf, k⟩ := h
  unfold itL at hf
  simp only [Option.bind_eq_some_iff] at hf
  obtain ⟨⟨d1, s1⟩, h1, h2⟩ := hf
  dsimp only at h2
  split at h2
  · cases h2
    refine ⟨M, s, _, _, rl, h1, fun v H1 k1 r1 t1 => ?_⟩
    obtain ⟨a, xs, rfl, g1, g2⟩ := t1.list
    exact ⟨a, rfl, ⟨xs, g1⟩, k _ H1 k1 r1 (yields_list t1)⟩
  · cases h2
theorem pit (h : PE X e (lft X.K Z fa)) : PI X tg e (lfI X.K Z (itT fa)) := PIimp (pi_tup h) fun σ H R h => by
  obtain ⟨M, s, ds, s', rl, hf, k⟩ := h
  unfold itT at hf
  simp only [Option.bind_eq_some_iff] at hf
  obtain ⟨⟨d1, s1⟩, h1, h2⟩ := hf
  dsimp only at h2
  split at h2
  · cases h2
    refine ⟨M, s, _, _, rl, h1, fun v H1 k1 r1 t1 => ?_⟩
    obtain ⟨a, xs, rfl, g1, g2⟩ := t1.tuple
    exact ⟨a, rfl, ⟨xs, g1⟩, k _ H1 k1 r1 (yields_tup t1)⟩
  · cases h2
theorem pis (h : PE X e (lft X.K Z fa)) : PI X tg e (lfI X.K Z (itS fa)) := PIimp (pi_str h) fun σ H R h => by
  obtain ⟨M, s, ds, s', rl, hf, k⟩ := h
  unfold itS at hf
  simp only [Option.bind_eq_some_iff] at hf
  obtain ⟨⟨d1, s1⟩, h1, h2⟩ := hf
  dsimp only at h2
  split at h2
  · rename_i x
    cases h2
    refine ⟨M, s, _, _, rl, h1, fun v H1 k1 r1 t1 => ?_⟩
    exact ⟨x, t1.text, k _ H1 k1 r1 (yields_str x)⟩
  · cases h2
theorem pir1 {p : Pos} (hg : Gl X "range") (hm : X.mg "range" = none) (h : PE X a (lft X.K Z fa)) (hs : starEach [a] X.env = [(false, eval a X.env)] := by rfl) : PI X tg (.Call (.Name "range" p) [a] [] pos) (lfI X.K Z (itR1 fa)) := PIimp (pi_range1 hg hm (pa_cons h pa_nil hs) hs) fun σ H R h => by
  obtain ⟨M, s, ds, s', rl, hf, k⟩ := h
  unfold itR1 at hf
  simp only [Option.bind_eq_some_iff] at hf
  obtain ⟨⟨d1, s1⟩, h1, h2⟩ := hf
  dsimp only at h2
  split at h2
  · rename_i n
    split at h2
    · rename_i hb
      cases h2
      refine ⟨M, s, _, _, rl, h1, fun v H1 k1 r1 t1 => ?_⟩
      refine ⟨n, by rw [t1.inti], hb.1, hb.2, ?_⟩
      have y : Yields X.K (Mu Z M) H1 (Itr 0 (n - 0).toNat) (rng 0 n) := yields_rng 0 n
      rw [show n - 0 = n from Int.sub_zero n] at y
      exact k _ H1 k1 r1 y
    · cases h2
  · cases h2
theorem pir2 {p : Pos} (hg : Gl X "range") (hm : X.mg "range" = none) (h : PE X a (lft X.K Z fa)) (h' : PE X b (lft X.K Z fb)) (hs : starEach [a, b] X.env = (false, eval a X.env) :: starEach [b] X.env := by rfl) (hs2 : starEach [b] X.env = [(false, eval b X.env)] := by rfl) : PI X tg (.Call (.Name "range" p) [a, b] [] pos) (lfI X.K Z (itR2 fa fb)) := PIimp (pi_range2 hg hm (pa_cons h (pa_cons h' pa_nil hs2) hs) (by rw [hs, hs2]) hs2) fun σ H R h => by
  obtain ⟨M, s, ds, s', rl, hf, k⟩ := h
  unfold itR2 at hf
  simp only [Option.bind_eq_some_iff] at hf
  obtain ⟨⟨d1, s1⟩, h1, ⟨d2, s2⟩, h2, h3⟩ := hf
  dsimp only at h2 h3
  split at h3
  · rename_i lo n
    split at h3
    · rename_i hb
      cases h3
      refine ⟨M, s, _, _, rl, h1, fun v H1 k1 r1 t1 => ⟨M, s1, _, _, r1, h2, fun w H2 k2 r2 t2 => ?_⟩⟩
      exact ⟨lo, n, by rw [t1.inti, t2.inti], ⟨hb.1.1, hb.1.2, hb.2.1, hb.2.2⟩, k _ H2 (k1.trans k2) r2 (yields_rng lo n)⟩
    · cases h3
  · cases h3
end

/-! ### targets -/
/-- a target stores what gd says -/
def TgOk (K : PySem.W.Frag) (g : TG) (gd : PyData → Sl → Option Sl) : Prop := ∀ (Z : Par) (M : List Addr) (σ : L2.St) (H : Hp) (s s' : Sl) (x : V) (d : PyData) (Q : L2.St → Hp → Prop), Rel K Z M σ H s → Dt K (Mu Z M) H x d → gd d s = some s' →
  (∀ M' σ', Rel K Z M' σ' H s' → Kq Z M H M' H → Q σ' H) → g x σ H Q
def tgN (i : Nat) : PyData → Sl → Option Sl := fun d s => some (s.set i (.dat d))
def tgTs : List (PyData → Sl → Option Sl) → List PyData → Sl → Option Sl
  | [], [], s => some s
  | g :: gs, d :: ds, s => (g d s).bind fun s' => tgTs gs ds s'
  | _, _, _ => none
def tgT (gs : List (PyData → Sl → Option Sl)) : PyData → Sl → Option Sl := fun d s => match d with
  | .tuple ds => tgTs gs ds s
  | _ => none
section
variable {K : PySem.W.Frag}
theorem tgn {i : Nat} : TgOk K (gName i) (tgN i) := fun Z M σ H s s' x d Q r t e k => by
  cases e
  obtain ⟨M', _, r2, k2⟩ := r.setDat t i
  exact k M' _ r2 k2
def TgsOk (K : PySem.W.Frag) (g : TGs) (gd : List PyData → Sl → Option Sl) : Prop := ∀ (Z : Par) (M : List Addr) (σ : L2.St) (H : Hp) (s s' : Sl) (xs : List V) (ds : List PyData) (Q : L2.St → Hp → Prop), Rel K Z M σ H s → DtAll K (Mu Z M) H xs ds → gd ds s = some s' →
  (∀ M' σ', Rel K Z M' σ' H s' → Kq Z M H M' H → Q σ' H) → g xs σ H Q
theorem tgsnil : TgsOk K gNil (tgTs []) := fun Z M σ H s s' xs ds Q r t e k => by
  cases ds with
  | nil => cases t; cases e; exact ⟨rfl, k M σ r (Kq.refl _ _ _)⟩
  | cons _ _ => cases e
theorem tgscons {g : TG} {gs : TGs} {gd : PyData → Sl → Option Sl} {gds : List (PyData → Sl → Option Sl)} (h : TgOk K g gd) (hs : TgsOk K gs (tgTs gds)) : TgsOk K (gCons g gs) (tgTs (gd :: gds)) := fun Z M σ H s s' xs ds Q r t e k => by
  cases ds with
  | nil => cases e
  | cons d ds =>
    cases t with
    | cons t1 t2 =>
      unfold tgTs at e
      simp only [Option.bind_eq_some_iff] at e
      obtain ⟨s1, e1, e2⟩ := e
      exact ⟨_, _, rfl, h Z M σ H s s1 _ d _ r t1 e1 fun M1 σ1 r1 k1 => hs Z M1 σ1 H s1 s' _ ds _ r1 (t2.mono k1.kp) e2 fun M2 σ2 r2 k2 => k M2 σ2 r2 (k1.trans k2)⟩
theorem tgTs_len : ∀ {gds : List (PyData → Sl → Option Sl)} {ds : List PyData} {s s' : Sl}, tgTs gds ds s = some s' → ds.length = gds.length
  | [], [], _, _, _ => rfl
  | [], _ :: _, _, _, e => by cases e
  | _ :: _, [], _, _, e => by cases e
  | g :: gs, d :: ds, s, s', e => by
    unfold tgTs at e
    simp only [Option.bind_eq_some_iff] at e
    obtain ⟨s1, _, e2⟩ := e
    rw [List.length_cons, List.length_cons, tgTs_len e2]
theorem tgt {n : Nat} {gs : TGs} {gds : List (PyData → Sl → Option Sl)} (hn : n = gds.length) (hs : TgsOk K gs (tgTs gds)) : TgOk K (gTup K n gs) (tgT gds) := fun Z M σ H s s' x d Q r t e k => by
  unfold tgT at e
  split at e
  · rename_i ds
    obtain ⟨a, xs, rfl, h1, h2⟩ := t.tuple
    exact ⟨a, xs, rfl, h1, by rw [h2.len, tgTs_len e, hn], hs Z M σ H s s' xs ds Q r h2 e k⟩
  · cases e
end

/-! ### for -/
def runFor (gd : PyData → Sl → Option Sl) (b : DS) : List PyData → Sl → Option Fl
  | [], s => some (.nx s)
  | d :: r, s => (gd d s).bind fun s1 => (b s1).bind fun fl => match fl with
    | .nx s' => runFor gd b r s'
    | .ct s' => runFor gd b r s'
    | .bk s' => some (.nx s')
    | .rt d s' => some (.rt d s')
def sFor (fi : DF) (gd : PyData → Sl → Option Sl) (b : DS) : DS := fun s => (fi s).bind fun p => runFor gd b p.1 p.2
def sAsg (f : DE) (gd : PyData → Sl → Option Sl) : DS := fun s => (f s).bind fun p => (gd p.1 p.2).map fun s' => .nx s'
section
variable {X : Cx} {Z : Par} {tg a b e : Expr} {es : List Expr} {pos : Pos} {fa fb fc : DE} {ff : DF} {ga : DA} {st : Stmt} {sts : List Stmt} {f : DS} {t : DT} {g : TG} {gd : PyData → Sl → Option Sl}
theorem lift_for {K : PySem.W.Frag} (hg : TgOk K g gd) {D : Ends} {σ : L2.St} {H : Hp} (h : lfS K Z (sFor ff gd f) D σ H) : tFor (lfI K Z ff) g (lfS K Z f) D σ H := by
  obtain ⟨M, s, fl, rl, hf, k⟩ := h
  unfold sFor at hf
  simp only [Option.bind_eq_some_iff] at hf
  obtain ⟨⟨ds, s1⟩, h1, h2⟩ := hf
  dsimp only at h2
  refine ⟨M, s, ds, s1, rl, h1, fun J H1 k1 r1 y => ?_⟩
  refine ⟨fun i m σ' H' => m = ds.length - i ∧ i ≤ ds.length ∧ ∃ M' s', Kq Z M H1 M' H' ∧ Rel K Z M' σ' H' s' ∧ runFor gd f (ds.drop i) s' = some fl, ⟨ds.length, by simp, Nat.zero_le _, M, s1, Kq.refl _ _ _, r1, h2⟩, ?_⟩
  rintro i m σ' H' ⟨rfl, hi, M', s', k2, r2, h3⟩
  by_cases hlt : i < ds.length
  · have ed : ds.drop i = ds[i] :: ds.drop (i + 1) := List.drop_eq_getElem_cons hlt
    rw [ed] at h3
    unfold runFor at h3
    simp only [Option.bind_eq_some_iff] at h3
    obtain ⟨s2, e1, fl1, e2, e3⟩ := h3
    refine .inr ⟨((y _ _ k2.kp i).1 hlt).1, fun σ3 H3 => ∃ M3 s3, Kq Z M H1 M3 H3 ∧ Rel K Z M3 σ3 H3 s3 ∧ runFor gd f (ds.drop (i + 1)) s3 = some fl, fun σ3 H3 q => ⟨ds.length - (i + 1), by omega, rfl, hlt, q⟩, fun x H'' hy => ?_⟩
    obtain ⟨rfl, d, e4, e5⟩ := ((y _ _ k2.kp i).1 hlt).2 x H'' hy
    rw [List.getElem?_eq_getElem hlt] at e4
    cases e4
    refine hg Z M' σ' _ s' s2 x _ _ r2 e5 e1 fun M3 σ3 r3 k3 => ?_
    refine ⟨M3, s2, fl1, r3, e2, ?_⟩
    have kk : Kq Z M H M3 _ := k1.trans (k2.trans k3)
    cases fl1 with
    | nx s4 => exact fun M4 σ4 H4 k4 r4 => ⟨M4, s4, k2.trans (k3.trans k4), r4, e3⟩
    | ct s4 => exact fun M4 σ4 H4 k4 r4 => ⟨M4, s4, k2.trans (k3.trans k4), r4, e3⟩
    | bk s4 => cases e3; exact fun M4 σ4 H4 k4 r4 => k M4 σ4 H4 (kk.trans k4) r4
    | rt d4 s4 => cases e3; exact fun M4 σ4 H4 v4 k4 r4 t4 => k M4 σ4 H4 v4 (kk.trans k4) r4 t4
  · have e : i = ds.length := by omega
    subst e
    rw [List.drop_length] at h3
    cases h3
    exact .inl ⟨(y _ _ k2.kp _).2 (Nat.le_refl _), k M' σ' H' (k1.trans k2) r2⟩
theorem sfor {iter : Expr} {body : List Stmt} (hp : PassesOwn (model X.prog X.w) X.A X.env X.xe) (hc : X.calm = true) (hi : PI X tg iter (lfI X.K Z ff)) (hg : PG X tg g) (hgd : TgOk X.K g gd) (hb : PSs X body (lfS X.K Z f))
    (hs : ∀ x, foldedSetIterable iter X.env x = pure x := by intro _; rfl) : PS X (.For tg iter body [] pos) (lfS X.K Z (sFor ff gd f)) := PSimp (ps_for hp hc hi hg hb hs) fun _ _ _ h => lift_for hgd h
/-- a, b = e -/
theorem sasg (he : PE X e (lft X.K Z fa)) (hg : PG X tg g) (hgd : TgOk X.K g gd) (hs : swapsWithSole [tg] e pos.line X.env = pure false := by rfl) (hw : swappedStores [tg] e X.env = pure none := by rfl)
    (h1 : (assignEach [tg] X.env).map (·.2) = [assign tg X.env] := by rfl) : PS X (.Assign [tg] e pos) (lfS X.K Z (sAsg fa gd)) := PSimp (ps_asg he hg hs hw h1) fun D σ H h => by
  obtain ⟨M, s, fl, rl, hf, k⟩ := h
  unfold sAsg at hf
  simp only [Option.bind_eq_some_iff, Option.map_eq_some_iff] at hf
  obtain ⟨⟨d, s1⟩, h1, s2, h2, h3⟩ := hf
  cases h3
  exact ⟨M, s, d, s1, rl, h1, fun v H1 k1 r1 t1 => hgd Z M σ H1 s1 s2 v d _ r1 t1 h2 fun M' σ' r2 k2 => k M' σ' H1 (k1.trans k2) r2⟩
/-- a, b = x, y -/
def sPar (i j : Nat) (f g : DE) : DS := fun s => (f s).bind fun p => (g p.2).map fun q => .nx ((q.2.set i (.dat p.1)).set j (.dat q.1))
theorem spar {i j : Nat} {x y : Str} {px py pt : Pos} {kt k2 pt2} (hc : X.calm = true) (hN : X.N.Nodup) (hi : X.N[i]? = some x) (hj : X.N[j]? = some y) (hij : i ≠ j)
    (hx : X.env.scope.names.lookup x = some .local) (hy : X.env.scope.names.lookup y = some .local) (ha : PE X a (lft X.K Z fa)) (hb : PE X b (lft X.K Z fb))
    (hw : swappedStores [.Tuple [.Name x px, .Name y py] kt pt] (.Tuple [a, b] k2 pt2) X.env = pure (some [x, y]))
    (hs : swapsWithSole [.Tuple [.Name x px, .Name y py] kt pt] (.Tuple [a, b] k2 pt2) pos.line X.env = pure false := by rfl) (hs1 : starEach [a, b] X.env = (false, eval a X.env) :: starEach [b] X.env := by rfl) (hs2 : starEach [b] X.env = (false, eval b X.env) :: starEach [] X.env := by rfl) :
    PS X (.Assign [.Tuple [.Name x px, .Name y py] kt pt] (.Tuple [a, b] k2 pt2) pos) (lfS X.K Z (sPar i j fa fb)) := PSimp (ps_par hc hN hi hj hij hx hy (pa_cons ha (pa_cons hb pa_nil hs2) hs1) hw hs) fun D σ H h => by
  obtain ⟨M, s, fl, rl, hf, k⟩ := h
  unfold sPar at hf
  simp only [Option.bind_eq_some_iff, Option.map_eq_some_iff] at hf
  obtain ⟨⟨d, s1⟩, h1, ⟨d2, s2⟩, h2, h3⟩ := hf
  cases h3
  refine ⟨M, s, d, s1, rl, h1, fun v H1 k1 r1 t1 => ⟨M, s1, d2, s2, r1, h2, fun w H2 k2 r2 t2 => ⟨v, w, rfl, ?_⟩⟩⟩
  obtain ⟨M3, _, r3, k3⟩ := r2.setDat (t1.mono k2.kp) i
  obtain ⟨M4, _, r4, k4⟩ := r3.setDat (t2.mono k3.kp) j
  exact k M4 _ H2 (k1.trans (k2.trans (k3.trans k4))) r4
end
end Dl

namespace Dl
open PySem PySem.Spec PyProof.Rows L2

/-! ### comprehensions, one name -/
def isNo : Option SV → Bool
  | some .no => true
  | _ => false
theorem isNo_eq {x : Option SV} (h : isNo x = true) : x = some .no := by
  unfold isNo at h
  split at h
  · rfl
  · cases h
def notOwn : Option SV → Bool
  | some (.own _) => false
  | _ => true
theorem notOwn_ne {x : Option SV} (h : notOwn x = true) : ∀ ds, x ≠ some (.own ds) := fun ds e => by rw [e] at h; cases h
def lcRun (j : Nat) (t : DT) (f : DE) : List PyData → Sl → Option (List PyData × Sl)
  | [], s => some ([], s)
  | d :: r, s => (t (s.set j (.dat d))).bind fun p => if notOwn p.2[j]? = true then (if p.1 = true then (f p.2).bind fun q => if notOwn q.2[j]? = true then (lcRun j t f r q.2).map fun w => (q.1 :: w.1, w.2) else none else lcRun j t f r p.2) else none
/-- the comprehension's slot j; what a turn leaves there is forgotten -/
def fLc (fi : DF) (j : Nat) (t : DT) (f : DE) : DF := fun s => (fi s).bind fun p => if isNo p.2[j]? = true ∧ p.1.length < sizeLine then (lcRun j t f p.1 p.2).map fun q => (q.1, q.2.set j .no) else none
def tYesD : DT := fun s => some (true, s)
section
variable {K : PySem.W.Frag} {Z : Par} {M M' : List Addr} {σ : L2.St} {H H' : Hp} {s s' : Sl} {p : Addr} {mu : Addr → Prop} {q : Option Addr}
/-- a slot of which nothing is known may hold anything -/
theorem SlAll.anyNo {x : Option V} : ∀ {σ : L2.St} {s : Sl} {M : List Addr} (j : Nat), SlAll K mu q H σ s M → s[j]? = some .no → SlAll K mu q H (σ.set j x) s M
  | _, _, _, _, .nil, e => by simp at e
  | _, _, _, 0, .dat h t, e => by simp at e
  | _, _, _, 0, .no t, e => .no t
  | _, _, _, 0, .own h d n t, e => by simp at e
  | _, _, _, 0, .pot e0 h d t, e => by simp at e
  | _, _, _, j + 1, .dat h t, e => .dat h (SlAll.anyNo j t (by simpa using e))
  | _, _, _, j + 1, .no t, e => .no (SlAll.anyNo j t (by simpa using e))
  | _, _, _, j + 1, .own h d n t, e => .own h d n (SlAll.anyNo j t (by simpa using e))
  | _, _, _, j + 1, .pot e0 h d t, e => .pot e0 h d (SlAll.anyNo j t (by simpa using e))
  | _, _, _, 0, .tab .., e => by simp at e
  | _, _, _, j + 1, .tab e0 h d f t, e => .tab e0 h d f (SlAll.anyNo j t (by simpa using e))
/-- .. a slot is forgotten (no list of its own) -/
theorem SlAll.forget {x : Option V} : ∀ {σ : L2.St} {s : Sl} {M : List Addr} (j : Nat), SlAll K mu q H σ s M → (∀ ds, s[j]? ≠ some (.own ds)) → SlAll K mu q H (σ.set j x) (s.set j .no) M
  | _, _, _, _, .nil, e => .nil
  | _, _, _, 0, .dat h t, e => .no t
  | _, _, _, 0, .no t, e => .no t
  | _, _, _, 0, .own h d n t, e => absurd rfl (e _)
  | _, _, _, 0, .pot e0 h d t, e => .no t
  | _, _, _, j + 1, .dat h t, e => .dat h (SlAll.forget j t (by simpa using e))
  | _, _, _, j + 1, .no t, e => .no (SlAll.forget j t (by simpa using e))
  | _, _, _, j + 1, .own h d n t, e => .own h d n (SlAll.forget j t (by simpa using e))
  | _, _, _, j + 1, .pot e0 h d t, e => .pot e0 h d (SlAll.forget j t (by simpa using e))
  | _, _, _, 0, .tab e0 h d f t, e => .no t
  | _, _, _, j + 1, .tab e0 h d f t, e => .tab e0 h d f (SlAll.forget j t (by simpa using e))
theorem SlAll.putDat {v : V} {d : PyData} (hv : Dt K mu H v d) : ∀ {σ : L2.St} {s : Sl} {M : List Addr} (j : Nat), SlAll K mu q H σ s M → (∀ ds, s[j]? ≠ some (.own ds)) → SlAll K mu q H (σ.set j (some v)) (s.set j (.dat d)) M
  | _, _, _, _, .nil, e => .nil
  | _, _, _, 0, .dat h t, e => .dat hv t
  | _, _, _, 0, .no t, e => .dat hv t
  | _, _, _, 0, .own h d n t, e => absurd rfl (e _)
  | _, _, _, 0, .pot e0 h d t, e => .dat hv t
  | _, _, _, j + 1, .dat h t, e => .dat h (SlAll.putDat hv j t (by simpa using e))
  | _, _, _, j + 1, .no t, e => .no (SlAll.putDat hv j t (by simpa using e))
  | _, _, _, j + 1, .own h d n t, e => .own h d n (SlAll.putDat hv j t (by simpa using e))
  | _, _, _, j + 1, .pot e0 h d t, e => .pot e0 h d (SlAll.putDat hv j t (by simpa using e))
  | _, _, _, 0, .tab e0 h d f t, e => .dat hv t
  | _, _, _, j + 1, .tab e0 h d f t, e => .tab e0 h d f (SlAll.putDat hv j t (by simpa using e))
theorem Rel.withSl (r : Rel K Z M σ H s) {σ' : L2.St} {s' : Sl} (h : SlAll K (Mu Z M) Z.p H σ' s' M) : Rel K Z M σ' H s' := ⟨r.base, r.fr, r.mz, r.pt, h⟩
theorem set_no {s : Sl} {j : Nat} (h : s[j]? = some .no) : s.set j .no = s := by
  apply List.ext_getElem?
  intro i
  by_cases e : i = j
  · subst e
    have hl : i < s.length := (List.getElem?_eq_some_iff.mp h).1
    rw [List.getElem?_set_self hl, h]
  · rw [List.getElem?_set_ne (Ne.symm e)]
end
section
variable {X : Cx} {Z : Par} {tg a b e : Expr} {es : List Expr} {pos : Pos} {fa fb fc : DE} {ff : DF} {ga : DA} {st : Stmt} {sts : List Stmt} {f : DS} {t : DT} {g : TG} {gd : PyData → Sl → Option Sl}
theorem wipe1 (σ : L2.St) (j : Nat) : wipe σ [j] = σ.set j none := rfl
theorem lift_lc {K : PySem.W.Frag} {j : Nat} {σ : L2.St} {H : Hp} {Q : VK} {T : TT} {E : TE} (hT : ∀ Z σ H Q, lfT K Z t σ H Q → T σ H Q) (hE : ∀ Z σ H Q, lft K Z fa σ H Q → E σ H Q) (h : lfF K Z (fLc ff j t fa) σ H Q) : tLc (lfI K Z ff) (gName j) T E [j] σ H Q := by
  obtain ⟨M, s, ds, s', rl, hf, k⟩ := h
  unfold fLc at hf
  simp only [Option.bind_eq_some_iff] at hf
  obtain ⟨⟨is, s1⟩, h1, h2⟩ := hf
  dsimp only at h2
  split at h2
  · rename_i hc
    simp only [Option.map_eq_some_iff] at h2
    obtain ⟨⟨os, s2⟩, h2, h3⟩ := h2
    cases h3
    have hc1 := isNo_eq hc.1
    refine ⟨M, s, is, s1, rl, h1, fun J H1 k1 r1 y D hD => ?_⟩
    have hD0 : H D = none := by
      cases q : H D with
      | none => rfl
      | some o =>
        by_cases m : Mu Z M D
        · obtain ⟨u, e⟩ := r1.muT D m
          rw [hD] at e; cases e
        · have := (k1.kp D o q m).1
          rw [hD] at this; cases this
    have npp : Z.p ≠ some D := fun z => by
      obtain ⟨o, e⟩ := r1.pt D z
      rw [hD] at e; cases e
    have nDM : D ∉ M := fun z => by
      obtain ⟨_, _, _, o, e⟩ := r1.fr D z
      rw [hD] at e; cases e
    have n0 : Z.H0 D = none := by
      cases q : Z.H0 D with
      | none => rfl
      | some o =>
        have := r1.base D o q npp
        rw [hD] at this; cases this
    have y1 : Yields K (Mu (Z.add D) M) (upd H1 D (.lst [])) J is := y.mono (kp_addNew hD _)
    -- all that stood, but D, stands
    let Kd : Hp → Prop := fun H' => ∀ a o, H1 a = some o → Z.p ≠ some a → a ∉ M → H' a = some o
    have kdy : ∀ {H'}, Kd H' → Kp (Mu Z M) H1 (Mu (Z.add D) M) H' := fun {H'} q a o e n => ⟨q a o e (fun z => n (.inr (.inl z))) (fun z => n (.inr (.inr z))), fun z => (mu_add.mp z).elim n (ne_of_none e hD)⟩
    let Wv : Nat → Hp → Prop := fun i H' => ∃ sw acc dacc rest, Kd H' ∧ Rel K (Z.add D) M σ H' (sw.set j .no) ∧ (∀ ds, sw[j]? ≠ some (.own ds)) ∧
      H' D = some (.lst acc) ∧ DtAll K (Mu (Z.add D) M) H' acc dacc ∧ dacc.length ≤ i ∧ lcRun j t fa (is.drop i) sw = some (rest, s2) ∧ os = dacc ++ rest
    refine ⟨fun i m H' => m = is.length - i ∧ i ≤ is.length ∧ Wv i H', ⟨is.length, by simp, Nat.zero_le _, s1, [], [], os, fun a o e _ _ => grow_new hD a o e, ?_, ?_, upd_same, .nil, Nat.le_refl _, h2, rfl⟩, ?_⟩
    · rw [set_no hc1]
      exact r1.addNew hD _
    · intro ds hh
      rw [hc1] at hh; cases hh
    rintro i m H' ⟨rfl, hi, sw, acc, dacc, rest, k2, r2, hsw, e1, e2, e3, e4, e5⟩
    by_cases hlt : i < is.length
    · have ed : is.drop i = is[i] :: is.drop (i + 1) := List.drop_eq_getElem_cons hlt
      rw [ed] at e4
      unfold lcRun at e4
      simp only [Option.bind_eq_some_iff] at e4
      obtain ⟨⟨b, s3⟩, e6, e7⟩ := e4
      dsimp only at e7
      split at e7
      case isFalse => cases e7
      rename_i n3
      refine .inr ⟨((y _ _ (kdy k2) i).1 hlt).1, Wv (i + 1), fun H3 q => ⟨is.length - (i + 1), by omega, rfl, hlt, q⟩, fun x H'' hy => ?_⟩
      obtain ⟨rfl, d, e8, e9⟩ := ((y _ _ (kdy k2) i).1 hlt).2 x H'' hy
      rw [List.getElem?_eq_getElem hlt] at e8
      cases e8
      refine ⟨by rw [wipe1, wipe1, List.set_set, List.set_set], ?_⟩
      have r3 : Rel K (Z.add D) M ((wipe σ [j]).set j (some x)) H'' (sw.set j (.dat is[i])) := by
        have q := (r2.sl.putDat e9 j (by
          intro ds hh
          by_cases hl : j < sw.length
          · rw [List.getElem?_set_self hl] at hh; cases hh
          · rw [List.getElem?_eq_none (by simpa using hl)] at hh; cases hh))
        rw [List.set_set] at q
        refine r2.withSl ?_
        rw [wipe1, List.set_set]
        exact q
      have back : ∀ {H4 : Hp} {s4 : Sl}, Rel K (Z.add D) M ((wipe σ [j]).set j (some x)) H4 s4 → (∀ ds, s4[j]? ≠ some (.own ds)) → Rel K (Z.add D) M σ H4 (s4.set j .no) := fun {H4 s4} r4 hs4 => by
        have q := r4.sl.forget (x := σ[j]?.join) j hs4
        refine r4.withSl ?_
        rw [wipe1, List.set_set, List.set_set] at q
        have e : σ.set j (σ[j]?.join) = σ := by
          apply List.ext_getElem?
          intro i'
          by_cases e : i' = j
          · subst e
            by_cases hl : i' < σ.length
            · rw [List.getElem?_set_self hl, List.getElem?_eq_getElem hl]; rfl
            · rw [List.getElem?_eq_none (by simpa using hl), List.getElem?_eq_none (by simpa using hl)]
          · rw [List.getElem?_set_ne (Ne.symm e)]
        rw [e] at q
        exact q
      refine hT (Z.add D) _ _ _ ⟨M, _, b, s3, r3, e6, fun H4 k4 r4 => ?_⟩
      have eD4 : H4 D = some (.lst acc) := (k4 D _ e1 npp nDM).1
      have kd4 : Kd H4 := fun a o e n1 n2 => (k4 a o (k2 a o e n1 n2) n1 n2).1
      cases b with
      | true =>
        rw [if_pos rfl] at e7
        simp only [Option.bind_eq_some_iff] at e7
        obtain ⟨⟨d2, s4⟩, e10, e11⟩ := e7
        dsimp only at e11
        split at e11
        case isFalse => cases e11
        rename_i n4
        simp only [Option.map_eq_some_iff] at e11
        obtain ⟨⟨w, s5⟩, e11, e12⟩ := e11
        cases e12
        refine iteT ?_
        refine hE (Z.add D) _ _ _ ⟨M, s3, d2, s4, r4, e10, fun v H5 k5 r5 t5 => ?_⟩
        have eD5 : H5 D = some (.lst acc) := (k5 D _ eD4 npp nDM).1
        have nm : Mu (Z.add D) M D := .inl (.inr rfl)
        have kw : Kp (Mu (Z.add D) M) H5 (Mu (Z.add D) M) (upd H5 D (.lst (acc ++ [v]))) := fun a u e n => ⟨by
          have na : a ≠ D := fun z => n (by rw [z]; exact nm)
          rw [upd_ne na]; exact e, n⟩
        have lacc := e2.len
        refine ⟨acc, eD5, by omega, s4, acc ++ [v], dacc ++ [d2], w, fun a o e n1 n2 => ?_, (back r5 (notOwn_ne n4)).wrAdd npp _ n0, notOwn_ne n4, upd_same, ((e2.mono (k4.kp.trans k5.kp)).append (.cons t5 .nil)).mono kw, by rw [List.length_append]; exact Nat.succ_le_succ e3, e11, by rw [e5, List.append_assoc]; rfl⟩
        have na : a ≠ D := ne_of_none e hD
        rw [upd_ne na]
        exact (k5 a o (kd4 a o e n1 n2) n1 n2).1
      | false =>
        rw [if_neg (by simp)] at e7
        refine iteF ?_
        exact ⟨s3, acc, dacc, rest, kd4, back r4 (notOwn_ne n3), notOwn_ne n3, eD4, e2.mono k4.kp, by omega, e7, e5⟩
    · have e : i = is.length := by omega
      subst e
      rw [List.drop_length] at e4
      cases e4
      rw [List.append_nil] at e5
      subst e5
      refine .inl ⟨(y _ _ (kdy k2) _).2 (Nat.le_refl _), ?_⟩
      exact k D acc H' hD0 e1 (fun a o e n1 n2 => ⟨k2 a o (k1 a o e n1 n2).1 n1 n2, n2⟩) r2 e2
  · cases h2
theorem flc {elt iter : Expr} {x : Str} {px : Pos} {ifs : List Expr} {scope : Scope} {j : Nat} (hc : X.calm = true) (hN : X.N.Nodup) (hi : PI X (.Name x px) iter (lfI X.K Z ff)) (ok : BlkOk X.N X.env.scope scope [(x, j)])
    (hg : ∀ (s : Shared) (H : Hp) (C : Addr) (cl : List (Str × Addr)) (fp : List Addr), PG (X.blk s H scope (compEnvC scope cl C X.env) fp) (.Name x px) (gName j))
    (ht : ∀ (s : Shared) (H : Hp) (C : Addr) (cl : List (Str × Addr)) (fp : List Addr) (Z : Par), PTs (X.blk s H scope (compEnvC scope cl C X.env) fp) ifs (lfT X.K Z t))
    (he : ∀ (s : Shared) (H : Hp) (C : Addr) (cl : List (Str × Addr)) (fp : List Addr) (Z : Par), PE (X.blk s H scope (compEnvC scope cl C X.env) fp) elt (lft X.K Z fa)) (hs : ∀ x, foldedSetIterable iter X.env x = pure x := by intro _; rfl) :
    PE X (.ListComp elt [⟨.Name x px, iter, ifs, 0⟩] scope pos) (lfF X.K Z (fLc ff j t fa)) :=
  PEimp (pe_lc hc hN hi ok hg (tt := fun σ H Q => ∃ Z, lfT X.K Z t σ H Q) (te := fun σ H Q => ∃ Z, lft X.K Z fa σ H Q)
    (fun s H0 C cl fp => ⟨fun pins s' σ H Q I ⟨Z, q⟩ => (ht s H0 C cl fp Z).run pins s' σ H Q I q⟩) (fun s H0 C cl fp => ⟨fun pins s' σ H Q I ⟨Z, q⟩ => (he s H0 C cl fp Z).run pins s' σ H Q I q⟩) hs) fun σ H Q h => lift_lc (fun Z _ _ _ q => ⟨Z, q⟩) (fun Z _ _ _ q => ⟨Z, q⟩) h
theorem tynil : PTs X [] (lfT X.K Z tYesD) := ⟨fun pins s σ H Q I h => pts_nil.run pins s σ H Q I (by
  obtain ⟨M, s, c, s', rl, hf, k⟩ := h
  cases hf
  exact k H (Kq.refl _ _ _) rl)⟩
end
end Dl

namespace Dl
open PySem PySem.Spec PyProof.Rows L2

/-! ### promises: a function of data; one that changes the list handed in first; one that makes a list which nobody else has -/
def spP (K : PySem.W.Frag) (m : List PyData → Option PyData) : Sp := fun vs H Q _ => ∃ mu ds d, (∀ a, mu a → ∃ o, H a = some o) ∧ DtAll K mu H vs ds ∧ m ds = some d ∧
  ∀ v H', (∀ a o, H a = some o → H' a = some o) → Dt K mu H' v d → Q v H'
def spM (K : PySem.W.Frag) (m : List PyData → List PyData → Option (PyData × List PyData)) : Sp := fun vs H Q _ => ∃ mu p xs pd rest ds d pd', vs = .ref p :: rest ∧ mu p ∧ (∀ a, mu a → ∃ o, H a = some o) ∧ H p = some (.lst xs) ∧ DtAll K mu H xs pd ∧ DtAll K mu H rest ds ∧
  m pd ds = some (d, pd') ∧ ∀ v H' xs', (∀ a o, H a = some o → a ≠ p → H' a = some o) → H' p = some (.lst xs') → DtAll K mu H' xs' pd' → Dt K mu H' v d → Q v H'
def spF (K : PySem.W.Frag) (m : List PyData → Option (List PyData)) : Sp := fun vs H Q _ => ∃ mu ds es, (∀ a, mu a → ∃ o, H a = some o) ∧ DtAll K mu H vs ds ∧ m ds = some es ∧
  ∀ p xs H', H p = none → (∀ a o, H a = some o → H' a = some o) → H' p = some (.lst xs) → DtAll K (fun a => mu a ∨ a = p) H' xs es → Q (.ref p) H'

def dCall (m : List PyData → Option PyData) (g : DA) : DE := fun s => (g s).bind fun p => (m p.1).map fun d => (d, p.2)
def dCallM (m : List PyData → List PyData → Option (PyData × List PyData)) (i : Nat) (g : DA) : DE := fun s => (contents s i).bind fun _ => (g s).bind fun p => (contents p.2 i).bind fun pd => (m pd p.1).map fun q => (q.1, setC p.2 i q.2)
def fCall (m : List PyData → Option (List PyData)) (g : DA) : DF := fun s => (g s).bind fun p => (m p.1).map fun d => (d, p.2)
section
variable {X : Cx} {Z : Par} {a b e : Expr} {es : List Expr} {pos : Pos} {fa fb fc : DE} {ff : DF} {ga : DA} {k : Nat} {f : Addr} {fd : FuncData} {ps : List Str} {x : Str} {p : Pos} {E : XK}
theorem lift_call {K : PySem.W.Frag} {m : List PyData → Option PyData} {σ : L2.St} {H : Hp} {Q : VK} (h : lft K Z (dCall m ga) σ H Q) : tCall (spP K m) [] E (lfA K Z ga) σ H Q := by
  obtain ⟨M, s, d, s', rl, hf, k⟩ := h
  unfold dCall at hf
  simp only [Option.bind_eq_some_iff, Option.map_eq_some_iff] at hf
  obtain ⟨⟨ds, s1⟩, h1, d1, h2, h3⟩ := hf
  cases h3
  refine ⟨M, s, ds, _, rl, h1, fun vs H1 k1 r1 t1 => ?_⟩
  show spP K m (vs ++ []) H1 Q E
  rw [List.append_nil]
  exact ⟨Mu Z M, ds, _, r1.muT, t1, h2, fun v H2 g2 t2 => k v H2 (k1.trans (kq_grow g2)) (r1.grow g2) t2⟩
theorem dcall {m : List PyData → Option PyData} (F : FnOk X.prog X.w X.K X.mg X.base CX0 k f fd ps (spP X.K m)) (hr : Room k X.A) (hg : Gl X x) (hm : X.mg x = some (.ref f)) (hk : PySem.W.keepIn X.K (.ref f) = true) (hb : Binds X.K fd ps []) (ha : PA X (e :: es) (lfA X.K Z ga)) (hx : Passes CX0 X E0 := by exact pass0)
    (hdb : (x == ("__debug__" : Str)) = false := by decide) (he : starEach (e :: es) X.env = (false, eval e X.env) :: starEach es X.env := by rfl) (hpl : (backTo pos (starEach es X.env)).any (·.1) = false := by rfl) :
    PE X (.Call (.Name x p) (e :: es) [] pos) (lft X.K Z (dCall m ga)) := PEimp (pe_call F hr hg hm hk hb .nil hx ha hdb he hpl) fun _ _ _ h => lift_call h
theorem dcall0 {m : List PyData → Option PyData} (F : FnOk X.prog X.w X.K X.mg X.base CX0 k f fd ps (spP X.K m)) (hr : Room k X.A) (hg : Gl X x) (hm : X.mg x = some (.ref f)) (hk : PySem.W.keepIn X.K (.ref f) = true) (hb : Binds X.K fd ps []) (hx : Passes CX0 X E0 := by exact pass0)
    (hdb : (x == ("__debug__" : Str)) = false := by decide) : PE X (.Call (.Name x p) [] [] pos) (lft X.K Z (dCall m aNil)) := PEimp (pe_call0 F hr hg hm hk hb .nil hx hdb) fun σ H Q h => by
  have q := lift_call (E := E0) h
  obtain ⟨M, s, d, s', rl, hf, k⟩ := q
  cases hf
  exact k [] H (Kq.refl _ _ _) rl .nil
theorem lift_callM {K : PySem.W.Frag} {m : List PyData → List PyData → Option (PyData × List PyData)} {i : Nat} {σ : L2.St} {H : Hp} {Q : VK} (h : lft K Z (dCallM m i ga) σ H Q) : tCall (spM K m) [] E (tCons (tVar i) (lfA K Z ga)) σ H Q := by
  obtain ⟨M, s, d, s', rl, hf, k⟩ := h
  unfold dCallM at hf
  simp only [Option.bind_eq_some_iff, Option.map_eq_some_iff] at hf
  obtain ⟨pd0, h0, ⟨ds, s1⟩, h1, pd, h2, ⟨d1, pd1⟩, h3, h4⟩ := hf
  cases h4
  obtain ⟨a0, xs0, g1, _⟩ := rl.at h0
  refine ⟨.ref a0, g1, M, s, ds, s1, rl, h1, fun vs H1 k1 r1 t1 => ?_⟩
  show spM K m ((V.ref a0 :: vs) ++ []) H1 Q E
  rw [List.append_nil]
  obtain ⟨a1, xs, e1, e2, e3, e4, e5⟩ := r1.at h2
  rw [g1] at e1
  cases e1
  refine ⟨Mu Z M, a0, xs, pd, vs, ds, _, pd1, rfl, e4, r1.muT, e2, e3, t1, h3, fun v H2 xs2 g2 g3 t2 t3 => ?_⟩
  obtain ⟨r2, k2⟩ := e5 H2 xs2 pd1 g3 g2 t2
  exact k v H2 (k1.trans k2) r2 t3
/-- f(x, ..), x a list that f may change -/
theorem dcallM {m : List PyData → List PyData → Option (PyData × List PyData)} (i : Nat) (F : FnOk X.prog X.w X.K X.mg X.base CX0 k f fd ps (spM X.K m)) (hr : Room k X.A) (hg : Gl X x) (hm : X.mg x = some (.ref f)) (hk : PySem.W.keepIn X.K (.ref f) = true) (hb : Binds X.K fd ps []) (h1 : PE X e (tVar i)) (ha : PA X es (lfA X.K Z ga)) (hx : Passes CX0 X E0 := by exact pass0)
    (hdb : (x == ("__debug__" : Str)) = false := by decide) (he : starEach (e :: es) X.env = (false, eval e X.env) :: starEach es X.env := by rfl) (hpl : (backTo pos (starEach es X.env)).any (·.1) = false := by rfl) :
    PE X (.Call (.Name x p) (e :: es) [] pos) (lft X.K Z (dCallM m i ga)) := PEimp (pe_call F hr hg hm hk hb .nil hx (pa_cons h1 ha he) hdb he hpl) fun _ _ _ h => lift_callM h
/-- .. of a function that makes a list of its own -/
theorem fcall {m : List PyData → Option (List PyData)} (F : FnOk X.prog X.w X.K X.mg X.base CX0 k f fd ps (spF X.K m)) (hr : Room k X.A) (hg : Gl X x) (hm : X.mg x = some (.ref f)) (hk : PySem.W.keepIn X.K (.ref f) = true) (hb : Binds X.K fd ps []) (ha : PA X (e :: es) (lfA X.K Z ga)) (hx : Passes CX0 X E0 := by exact pass0)
    (hdb : (x == ("__debug__" : Str)) = false := by decide) (he : starEach (e :: es) X.env = (false, eval e X.env) :: starEach es X.env := by rfl) (hpl : (backTo pos (starEach es X.env)).any (·.1) = false := by rfl) :
    PE X (.Call (.Name x p) (e :: es) [] pos) (lfF X.K Z (fCall m ga)) := PEimp (pe_call F hr hg hm hk hb .nil hx ha hdb he hpl) fun σ H Q h => by
  obtain ⟨M, s, d, s', rl, hf, k⟩ := h
  unfold fCall at hf
  simp only [Option.bind_eq_some_iff, Option.map_eq_some_iff] at hf
  obtain ⟨⟨ds, s1⟩, h1, d1, h2, h3⟩ := hf
  cases h3
  refine ⟨M, s, ds, _, rl, h1, fun vs H1 k1 r1 t1 => ?_⟩
  show spF X.K m (vs ++ []) H1 Q E0
  rw [List.append_nil]
  refine ⟨Mu Z M, ds, _, r1.muT, t1, h2, fun q xs H2 hq g2 g3 t2 => ?_⟩
  have hq0 : H q = none := by
    cases w : H q with
    | none => rfl
    | some o =>
      by_cases m : Mu Z M q
      · obtain ⟨u, e⟩ := r1.muT q m
        rw [hq] at e; cases e
      · have := (k1.kp q o w m).1
        rw [hq] at this; cases this
  have kp2 : Kp (fun a => Mu Z M a ∨ a = q) H2 (Mu (Z.add q) M) H2 := fun a o e n => ⟨e, fun z => n (mu_add.mp z)⟩
  -- the state behind: all stood ahead of q
  have r2 : Rel X.K (Z.add q) M σ H2 s1 := by
    have kq : Kp (Mu Z M) H1 (Mu (Z.add q) M) H2 := fun a o e n => ⟨g2 a o e, fun z => (mu_add.mp z).elim n (ne_of_none e hq)⟩
    refine ⟨fun a o e n => g2 a o (r1.base a o e n), fun a ha => ?_, fun a ha => ?_, fun a ha => let ⟨o, e⟩ := r1.pt a ha; ⟨o, g2 a o e⟩, ?_⟩
    · obtain ⟨f1, f2, f3, o, f4⟩ := r1.fr a ha
      exact ⟨f1, f2, fun z => z.elim f3 (ne_of_none f4 hq), o, g2 a o f4⟩
    · rcases ha with ha | ha
      · obtain ⟨o, e⟩ := r1.mz a ha
        exact ⟨o, g2 a o e⟩
      · rw [ha]; exact ⟨_, g3⟩
    · exact r1.sl.kp kq (M := M) (fun a xs _ e => g2 _ _ e) (fun a xs _ e => g2 _ _ e) (fun _ h => h)
  exact k q xs H2 hq0 g3 (k1.trans (kq_grow g2)) r2 (t2.mono kp2)
end

/-! ### defs -/
def startS (N : List Str) (ds : List PyData) : Sl := ds.map SV.dat ++ List.replicate (N.length - ds.length) .no
def startM (N : List Str) (pd ds : List PyData) : Sl := SV.pot pd :: (ds.map SV.dat ++ List.replicate (N.length - 1 - ds.length) .no)
def outP : Option Fl → Option PyData
  | some (.rt d _) => some d
  | some (.nx _) => some .none
  | _ => none
def potOf : Option SV → Option (List PyData)
  | some (.pot pd) => some pd
  | _ => none
theorem potOf_eq {x : Option SV} {pd : List PyData} (h : potOf x = some pd) : x = some (.pot pd) := by
  unfold potOf at h
  split at h
  · cases h; rfl
  · cases h
def outM : Option Fl → Option (PyData × List PyData)
  | some (.rt d s) => (potOf s[0]?).map fun pd => (d, pd)
  | some (.nx s) => (potOf s[0]?).map fun pd => (.none, pd)
  | _ => none
/-- the meaning of a def by its body's -/
def fnP (N : List Str) (n : Nat) (b : DS) : List PyData → Option PyData := fun ds => if ds.length = n then outP (b (startS N ds)) else none
def fnM (N : List Str) (n : Nat) (b : DS) : List PyData → List PyData → Option (PyData × List PyData) := fun pd ds => if ds.length + 1 = n then outM (b (startM N pd ds)) else none
section
variable {P : Program} {w : World} {K : PySem.W.Frag} {mg : Str → Option Value} {base : Heap}
theorem slAll_nos {mu : Addr → Prop} {q : Option Addr} {H : Hp} : ∀ n : Nat, SlAll K mu q H (List.replicate n none) (List.replicate n .no) []
  | 0 => .nil
  | n + 1 => .no (slAll_nos n)
theorem slAll_start {mu : Addr → Prop} {q : Option Addr} {H : Hp} (n : Nat) : ∀ {vs : List V} {ds : List PyData}, DtAll K mu H vs ds → SlAll K mu q H (vs.map some ++ List.replicate n none) (ds.map SV.dat ++ List.replicate n .no) []
  | _, _, .nil => slAll_nos n
  | _, _, .cons h t => .dat h (slAll_start n t)
/-- a def of data -/
theorem okP {x qual : Str} {st : Stmt} {f : Addr} {fd : FuncData} {N ps : List Str} {k : Nat} {b : DS} (F : Fun K x qual st f fd) (S : FnScope N ps (defScope st))
    (hb : ∀ (cdv : Value) (A : Around) (outer : List Env) (s : Shared) (H : Hp) (E : XK) (Z : Par), Room k (A.deeper (envOfC qual (defScope st) s.heap.objs.size f cdv)) → PSs (cxOf CX0 P w K mg base N qual (defScope st) f cdv A outer s H E).nox (defBody st) (lfS K Z b)) :
    FnOk P w K mg base CX0 (k + 1) f fd ps (spP K (fnP N ps.length b)) := by
  refine F.ok S (fun vs H Q E h => ?_) (fun cdv A outer s H vs Q E hr h => ?_)
  · obtain ⟨mu, ds, d, h1, h2, h3, h4⟩ := h
    unfold fnP at h3
    split at h3
    · rename_i hl
      rw [h2.len]; exact hl
    · cases h3
  · obtain ⟨mu, ds, d, h1, h2, h3, h4⟩ := h
    unfold fnP at h3
    split at h3
    case isFalse => cases h3
    rename_i hl
    let Z : Par := ⟨H, none, mu⟩
    refine ⟨_, hb cdv A outer s H E Z hr, [], startS N ds, ?_⟩
    have muE : ∀ a, Mu Z [] a → mu a := fun a q => by
      rcases q with q | q | q
      · exact q
      · cases q
      · cases q
    have r : Rel K Z [] (start N vs) H (startS N ds) := by
      refine ⟨fun a o e _ => e, fun a ha => (by cases ha), h1, fun a ha => (by cases ha), ?_⟩
      unfold startS L2.start
      rw [h2.len]
      exact slAll_start _ (h2.mono fun a o e n => ⟨e, fun z => n (muE a z)⟩)
    unfold outP at h3
    split at h3
    · rename_i d1 s1 hq
      cases h3
      refine ⟨_, r, hq, fun M σ H1 v k1 r1 t1 => h4 v H1 (fun a o e => r1.base a o e (fun z => by cases z)) (t1.mono fun a o e n => ⟨e, fun z => n (.inl z)⟩)⟩
    · rename_i s1 hq
      cases h3
      refine ⟨_, r, hq, fun M σ H1 k1 r1 => h4 _ H1 (fun a o e => r1.base a o e (fun z => by cases z)) .non⟩
    · cases h3
/-- a def that changes the list handed in first -/
theorem okM {x qual : Str} {st : Stmt} {f : Addr} {fd : FuncData} {N ps : List Str} {k : Nat} {b : DS} (F : Fun K x qual st f fd) (S : FnScope N ps (defScope st))
    (hb : ∀ (cdv : Value) (A : Around) (outer : List Env) (s : Shared) (H : Hp) (E : XK) (Z : Par), Room k (A.deeper (envOfC qual (defScope st) s.heap.objs.size f cdv)) → PSs (cxOf CX0 P w K mg base N qual (defScope st) f cdv A outer s H E).nox (defBody st) (lfS K Z b)) :
    FnOk P w K mg base CX0 (k + 1) f fd ps (spM K (fnM N ps.length b)) := by
  refine F.ok S (fun vs H Q E h => ?_) (fun cdv A outer s H vs Q E hr h => ?_)
  · obtain ⟨mu, p, xs, pd, rest, ds, d, pd', rfl, h0, h1, h2, h3, h4, h5, h6⟩ := h
    unfold fnM at h5
    split at h5
    · rename_i hl
      rw [List.length_cons, h4.len]; exact hl
    · cases h5
  · obtain ⟨mu, p, xs, pd, rest, ds, d, pd', rfl, h0, h1, h2, h3, h4, h5, h6⟩ := h
    unfold fnM at h5
    split at h5
    case isFalse => cases h5
    rename_i hl
    let Z : Par := ⟨H, some p, mu⟩
    refine ⟨_, hb cdv A outer s H E Z hr, [], startM N pd ds, ?_⟩
    have muE : ∀ a, Mu Z [] a → mu a := fun a q => by
      rcases q with q | q | q
      · exact q
      · cases q; exact h0
      · cases q
    have kk : Kp mu H (Mu Z []) H := fun a o e n => ⟨e, fun z => n (muE a z)⟩
    have r : Rel K Z [] (start N (.ref p :: rest)) H (startM N pd ds) := by
      refine ⟨fun a o e _ => e, fun a ha => (by cases ha), h1, fun a ha => (by cases ha; exact ⟨_, h2⟩), ?_⟩
      unfold startM L2.start
      have e : N.length - (V.ref p :: rest).length = N.length - 1 - ds.length := by rw [List.length_cons, h4.len]; omega
      rw [e]
      exact .pot rfl h2 (h3.mono kk) (slAll_start _ (h4.mono kk))
    have fin : ∀ {M : List Addr} {σ : L2.St} {H1 : Hp} {s1 : Sl} {pd1 : List PyData}, Rel K Z M σ H1 s1 → s1[0]? = some (.pot pd1) → ∃ xs1, H1 p = some (.lst xs1) ∧ DtAll K mu H1 xs1 pd1 := fun {M σ H1 s1 pd1} r1 e => by
      obtain ⟨a, xs1, _, e2, e3, e4⟩ := r1.sl.getPot e
      cases e2
      exact ⟨xs1, e3, e4.mono fun a o e n => ⟨e, fun z => n (.inl z)⟩⟩
    have bs : ∀ {M : List Addr} {σ : L2.St} {H1 : Hp} {s1 : Sl}, Rel K Z M σ H1 s1 → ∀ a o, H a = some o → a ≠ p → H1 a = some o := fun r1 a o e n => r1.base a o e (fun z => n (by cases z; rfl))
    unfold outM at h5
    split at h5
    · rename_i d1 s1 hq
      simp only [Option.map_eq_some_iff] at h5
      obtain ⟨pd1, hp, h5⟩ := h5
      cases h5
      refine ⟨_, r, hq, fun M σ H1 v k1 r1 t1 => ?_⟩
      obtain ⟨xs1, e1, e2⟩ := fin r1 (potOf_eq hp)
      exact h6 v H1 xs1 (bs r1) e1 e2 (t1.mono fun a o e n => ⟨e, fun z => n (.inl z)⟩)
    · rename_i s1 hq
      simp only [Option.map_eq_some_iff] at h5
      obtain ⟨pd1, hp, h5⟩ := h5
      cases h5
      refine ⟨_, r, hq, fun M σ H1 k1 r1 => ?_⟩
      obtain ⟨xs1, e1, e2⟩ := fin r1 (potOf_eq hp)
      exact h6 _ H1 xs1 (bs r1) e1 e2 .non
    · cases h5
end
end Dl

namespace PySem.SeqAt
open AutoSeq1 (wpAny_loadPart')
open MeetsSeq MeetsSeq2 MeetsSeq3 SeqRoads2
theorem dict_declines_str (l : Addr) (o : Obj) (b : Str) (u : Tok) :
    Meets (Builtin.«dict.__eq__» ⟨[.ref l, .str b u], []⟩) (fun _ R s => (s.heap.get? l = some o ∧ o.cls = .type "dict") ∧ R (.ok (.ret .notImplemented)) s) :=
  .of_wp fun prog w A R s h => by
    obtain ⟨hp, g, d, tk, os⟩ := s
    obtain ⟨⟨hl, hc⟩, h⟩ := h
    obtain ⟨cls, dd, dt, sl⟩ := o
    simp only at hc
    subst hc
    have f1 := F.sub_str_dict
    wp_walk using wpAny_loadPart' hl, wpAny_load hl
    exact ⟨_, rfl, h⟩
theorem str_declines_dict (b : Str) (u : Tok) (l : Addr) (o : Obj) :
    Meets (Builtin.«str.__eq__» ⟨[.str b u, .ref l], []⟩) (fun _ R s => (s.heap.get? l = some o ∧ ∃ es ep, o.data = .dict es ep) ∧ R (.ok (.ret .notImplemented)) s) :=
  .of_wp fun prog w A R s h => by
    obtain ⟨hp, g, d, tk, os⟩ := s
    obtain ⟨⟨hl, es, ep, hd⟩, h⟩ := h
    obtain ⟨cls, dd, dt, sl⟩ := o
    simp only at hd
    subst hd
    wp_walk using wpAny_loadPart' hl, wpAny_load hl
    exact ⟨_, rfl, h⟩
section
variable {A : Around} {s : Shared}
def IsD (h : Heap) (l : Addr) : Prop := ∃ o, h.get? l = some o ∧ o.cls = .type "dict" ∧ ∃ es ep, o.data = .dict es ep
theorem RcAt.dict_str {l : Addr} (b : Str) (u : Tok) (hl : IsD s.heap l) (hu : A.units < cLine) : RcAt A s (.ref l) (.str b u) false := fun prog w E Q h => by
  obtain ⟨o, ho, hc, hd⟩ := hl
  exact rc_eq_decline_or (k := false) ⟨_, ho, hc⟩ (typeIs_str s b u) (by decide) F.sub_str_dict F.slot_dict_eq F.slot_str_eq_refl
    (fun _ hq => call_meets F.slot_dict_eq ⟨_, ho, hc⟩ F.entry_dict_eq (F.args_dict_eq_2 _ _) (dict_declines_str l o b u) ⟨⟨ho, hc⟩, hq⟩)
    (fun _ hq => call_meets F.slot_str_eq_refl (typeIs_str s b u) F.entry_str_eq (F.args_str_eq_2 _ _) (str_declines_dict b u l o) ⟨⟨ho, hd⟩, hq⟩)
    (fun _ hq => wpAny_of_eq (rfl : isSame (.ref l) (.str b u) = pure false) hq) (.inr hu) h
theorem EqAt.dict_str {l : Addr} (b : Str) (u : Tok) (hl : IsD s.heap l) (hu : A.units < cLine) : EqAt A s (.ref l) (.str b u) false := fun prog w E Q h => by
  unfold eqBool
  refine wpAny_holding ?_
  refine wpAny_ite_split (fun hab => absurd (eq_of_beq hab) nofun) (fun _ => ?_)
  exact wpAny_bind (RcAt.dict_str b u hl hu prog w E _ (wpAny_truthy_bool h))
theorem RcAt.str_dict {l : Addr} (b : Str) (u : Tok) (hl : IsD s.heap l) (hu : A.units < cLine) : RcAt A s (.str b u) (.ref l) false := fun prog w E Q h => by
  obtain ⟨o, ho, hc, hd⟩ := hl
  exact rc_eq_decline_or (k := false) (typeIs_str s b u) ⟨_, ho, hc⟩ (by decide) F.sub_dict_str F.slot_str_eq F.slot_dict_eq_refl
    (fun _ hq => call_meets F.slot_str_eq (typeIs_str s b u) F.entry_str_eq (F.args_str_eq_2 _ _) (str_declines_dict b u l o) ⟨⟨ho, hd⟩, hq⟩)
    (fun _ hq => call_meets F.slot_dict_eq_refl ⟨_, ho, hc⟩ F.entry_dict_eq (F.args_dict_eq_2 _ _) (dict_declines_str l o b u) ⟨⟨ho, hc⟩, hq⟩)
    (fun _ hq => wpAny_of_eq (rfl : isSame (.str b u) (.ref l) = pure false) hq) (.inr hu) h
theorem EqAt.str_dict {l : Addr} (b : Str) (u : Tok) (hl : IsD s.heap l) (hu : A.units < cLine) : EqAt A s (.str b u) (.ref l) false := fun prog w E Q h => by
  unfold eqBool
  refine wpAny_holding ?_
  refine wpAny_ite_split (fun hab => absurd (eq_of_beq hab) nofun) (fun _ => ?_)
  exact wpAny_bind (RcAt.str_dict b u hl hu prog w E _ (wpAny_truthy_bool h))
end
end PySem.SeqAt

namespace Dl
open PySem PySem.Spec PyProof.Rows L2

/-! ### operators on trees -/
def gAdd : PyData → PyData → Option PyData
  | .int a, .int b => some (.int (a + b))
  | .str a, .str b => if a.length + b.length ≤ sizeLine then some (.str (a ++ b)) else none
  | .tuple a, .tuple b => if a.length + b.length ≤ sizeLine then some (.tuple (a ++ b)) else none
  | .list a, .list b => if a.length + b.length ≤ sizeLine then some (.list (a ++ b)) else none
  | _, _ => none
def gInt (g : Int → Int → Option Int) : PyData → PyData → Option PyData
  | .int a, .int b => (g a b).map .int
  | _, _ => none
def gSub : PyData → PyData → Option PyData := gInt fun a b => some (a - b)
def gMul : PyData → PyData → Option PyData := gInt fun a b => if (a.natAbs.log2 + b.natAbs.log2 < 1000000) then some (a * b) else none
def gDiv : PyData → PyData → Option PyData := gInt fun a b => if (0 < b ∧ b.natAbs.log2 < 9000) then some (a / b) else none
def gMod : PyData → PyData → Option PyData := gInt fun a b => if 0 < b then some (a % b) else none
def gPow : PyData → PyData → Option PyData := gInt fun a b => if 0 ≤ b ∧ ((a.natAbs.log2 + 1 : Nat) : Int) * b ≤ 2 ^ 27 then some (a ^ b.toNat) else none
def gCmpI (p : Int → Int → Bool) : PyData → PyData → Option PyData
  | .int a, .int b => some (.bool (p a b))
  | _, _ => none
def gLe : PyData → PyData → Option PyData
  | .int a, .int b => some (.bool (decide (a ≤ b)))
  | .str a, .str b => some (.bool (!decide (b.cps.toList < a.cps.toList)))
  | _, _ => none
def gLt : PyData → PyData → Option PyData
  | .int a, .int b => some (.bool (decide (a < b)))
  | .str a, .str b => some (.bool (decide (a.cps.toList < b.cps.toList)))
  | _, _ => none
def gGe : PyData → PyData → Option PyData := gCmpI fun a b => decide (b ≤ a)
def gGt : PyData → PyData → Option PyData := gCmpI fun a b => decide (b < a)

section
variable {X : Cx} {K : PySem.W.Frag}
theorem gInt_some {g : Int → Int → Option Int} {d1 d2 d : PyData} (h : gInt g d1 d2 = some d) : ∃ a b c, d1 = .int a ∧ d2 = .int b ∧ g a b = some c ∧ d = .int c := by
  unfold gInt at h
  split at h
  · simp only [Option.map_eq_some_iff] at h
    obtain ⟨c, h1, h2⟩ := h
    exact ⟨_, _, c, rfl, rfl, h1, h2.symm⟩
  · cases h
theorem okI {C : Int → Int → Prop} {g : Int → Int → Int} {g' : Int → Int → Option Int} (h : ∀ a b c, g' a b = some c → C a b ∧ c = g a b) : OpOk K (rI C fun i j => .int (g i j)) (gInt g') := fun mu H x y d1 d2 d Q hm t1 t2 e k => by
  obtain ⟨a, b, c, rfl, rfl, e1, rfl⟩ := gInt_some e
  obtain ⟨h1, rfl⟩ := h a b c e1
  exact ⟨a, b, t1.inti, t2.inti, h1, k _ H (fun _ _ z => z) (.int _)⟩
theorem okI0 {g : Int → Int → Int} {g' : Int → Int → Option Int} (h : ∀ a b c, g' a b = some c → c = g a b) : OpOk K (rI0 fun i j => .int (g i j)) (gInt g') := fun mu H x y d1 d2 d Q hm t1 t2 e k => by
  obtain ⟨a, b, c, rfl, rfl, e1, rfl⟩ := gInt_some e
  have := h a b c e1
  subst this
  exact ⟨a, b, t1.inti, t2.inti, k _ H (fun _ _ z => z) (.int _)⟩
theorem okB0 {p : Int → Int → Bool} : OpOk K (rI0 fun i j => .bl (p i j)) (gCmpI p) := fun mu H x y d1 d2 d Q hm t1 t2 e k => by
  unfold gCmpI at e
  split at e
  · cases e
    exact ⟨_, _, t1.inti, t2.inti, k _ H (fun _ _ z => z) (.bl _)⟩
  · cases e
theorem ok_sub : OpOk K (rI0 fun i j => .int (i - j)) gSub := okI0 fun a b c h => by cases h; rfl
theorem ok_mul : OpOk K (rI CMulW fun i j => .int (i * j)) gMul := okI fun a b c h => by
  split at h
  · cases h; exact ⟨by assumption, rfl⟩
  · cases h
theorem ok_div : OpOk K (rI CDivW fun i j => .int (i / j)) gDiv := okI fun a b c h => by
  split at h
  · cases h; exact ⟨by assumption, rfl⟩
  · cases h
theorem ok_mod : OpOk K (rI (fun _ j => 0 < j) fun i j => .int (i % j)) gMod := okI fun a b c h => by
  split at h
  · cases h; exact ⟨by assumption, rfl⟩
  · cases h
def CPowW (i j : Int) : Prop := 0 ≤ j ∧ ((i.natAbs.log2 + 1 : Nat) : Int) * j ≤ 2 ^ 27
theorem op_powW : OpR X (binaryOp .Pow) (rI CPowW fun i j => .int (i ^ j.toNat)) := opI fun i j _ _ _ _ _ hc q => pow_int hc.1 (by
  have e : Builtin.Int.intBits i ≤ i.natAbs.log2 + 1 := by
    unfold Builtin.Int.intBits
    split <;> omega
  have h1 : (Builtin.Int.intBits i : Int) ≤ ((i.natAbs.log2 + 1 : Nat) : Int) := Int.ofNat_le.mpr e
  exact Int.le_trans (Int.mul_le_mul_of_nonneg_right h1 hc.1) hc.2) q
theorem ok_pow : OpOk K (rI CPowW fun i j => .int (i ^ j.toNat)) gPow := okI fun a b c h => by
  split at h
  · cases h; exact ⟨by assumption, rfl⟩
  · cases h
theorem ok_ge : OpOk K (rI0 fun i j => .bl (decide (j ≤ i))) gGe := okB0
theorem ok_gt : OpOk K (rI0 fun i j => .bl (decide (j < i))) gGt := okB0
def rLeA : R2 := fun x y H Q => (∃ i j, x = .int i ∧ y = .int j ∧ Q (.bl (decide (i ≤ j))) H) ∨ ∃ i j, x = .str i ∧ y = .str j ∧ Q (.bl (!decide (j.cps.toList < i.cps.toList))) H
theorem op_leA : OpR X (compareOp .LtE) rLeA := OpR.or op_le op_le_str
theorem ok_le : OpOk K rLeA gLe := fun mu H x y d1 d2 d Q hm t1 t2 e k => by
  unfold gLe at e
  split at e
  · cases e; exact .inl ⟨_, _, t1.inti, t2.inti, k _ H (fun _ _ z => z) (.bl _)⟩
  · cases e; exact .inr ⟨_, _, t1.text, t2.text, k _ H (fun _ _ z => z) (.bl _)⟩
  · cases e
def rLtA : R2 := fun x y H Q => (∃ i j, x = .int i ∧ y = .int j ∧ Q (.bl (decide (i < j))) H) ∨ ∃ i j, x = .str i ∧ y = .str j ∧ Q (.bl (decide (i.cps.toList < j.cps.toList))) H
theorem op_ltA : OpR X (compareOp .Lt) rLtA := OpR.or op_lt op_lt_str
theorem ok_lt : OpOk K rLtA gLt := fun mu H x y d1 d2 d Q hm t1 t2 e k => by
  unfold gLt at e
  split at e
  · cases e; exact .inl ⟨_, _, t1.inti, t2.inti, k _ H (fun _ _ z => z) (.bl _)⟩
  · cases e; exact .inr ⟨_, _, t1.text, t2.text, k _ H (fun _ _ z => z) (.bl _)⟩
  · cases e
/-- + -/
def rCatR : R2 := fun x y H Q => ∃ l b xs zs, x = .ref l ∧ y = .ref b ∧ Rd H l (.lst xs) ∧ Rd H b (.lst zs) ∧ xs.length + zs.length ≤ sizeLine ∧ ∀ p, H p = none → Q (.ref p) (upd H p (.lst (xs ++ zs)))
theorem op_catR : OpR X (binaryOp .Add) rCatR := fun pins s σ H x y v u Q I rx ry ⟨l, b, xs, zs, ex, ey, h1, h2, hz, q⟩ => by
  subst ex ey
  cases rx
  cases ry
  obtain ⟨z1, its, n, r, e⟩ := h1.ok I.hok
  obtain ⟨z2, its2, n2, r2, e2⟩ := h2.ok I.hok
  have l1 := r.length
  have l2 := r2.length
  refine PySem.P.add_list e e2 ?_ (by rw [List.size_toArray, List.size_toArray]; omega)
  rw [show its.toArray ++ its2.toArray = (its ++ its2).toArray by simp]
  exact ⟨.ref _, _, I.lnew (t' := s.toks) (r.append r2) (by rw [List.length_append]; omega), rfl, q _ I.fresh⟩
def rAddA (K : PySem.W.Frag) : R2 := fun x y H Q => ((∃ i j, x = .int i ∧ y = .int j ∧ Q (.int (i + j)) H) ∨ ∃ i j, x = .str i ∧ y = .str j ∧ i.length + j.length ≤ sizeLine ∧ Q (.str (i ++ j)) H) ∨ (rCatA K x y H Q ∨ rCatR x y H Q)
theorem op_addA : OpR X (binaryOp .Add) (rAddA X.K) := OpR.or (OpR.or op_add op_add_str) (OpR.or op_catA op_catR)
theorem ok_add : OpOk K (rAddA K) gAdd := fun mu H x y d1 d2 d Q hm t1 t2 e k => by
  unfold gAdd at e
  split at e
  · cases e; exact .inl (.inl ⟨_, _, t1.inti, t2.inti, k _ H (fun _ _ z => z) (.int _)⟩)
  · split at e
    · cases e; exact .inl (.inr ⟨_, _, t1.text, t2.text, by assumption, k _ H (fun _ _ z => z) (.str _)⟩)
    · cases e
  · rename_i ds es
    split at e
    case isFalse => cases e
    rename_i hz
    cases e
    obtain ⟨a, xs, ea, h1, u1⟩ := t1.tuple
    obtain ⟨b, ys, eb, h2, u2⟩ := t2.tuple
    subst ea eb
    refine .inr (.inl ⟨a, b, xs, ys, rfl, rfl, h1, h2, by rw [u1.len, u2.len]; exact hz, fun hx => ?_, fun _ hy => ?_, fun _ _ p hp => ?_⟩)
    · subst hx
      cases u1
      exact k _ H (fun _ _ z => z) t2
    · subst hy
      cases u2
      rw [List.append_nil] at k
      exact k _ H (fun _ _ z => z) t1
    · exact k _ _ (grow_new hp) (dt_newT hm hp (u1.append u2))
  · rename_i ds es
    split at e
    case isFalse => cases e
    rename_i hz
    cases e
    obtain ⟨a, xs, ea, h1, u1⟩ := t1.listR
    obtain ⟨b, ys, eb, h2, u2⟩ := t2.listR
    subst ea eb
    exact .inr (.inr ⟨a, b, xs, ys, rfl, rfl, h1, h2, by rw [u1.len, u2.len]; exact hz, fun p hp => k _ _ (grow_new hp) (dt_newL hm hp (u1.append u2))⟩)
  · cases e

/-! ### an item, by its place -/
def gIx : PyData → PyData → Option PyData
  | .list ds, .int i => atI ds i
  | .tuple ds, .int i => atI ds i
  | .str x, .int i => if x.length ≤ sizeLine then (atI x.cps.toList i).map fun c => .str ⟨#[c]⟩ else none
  | .dict [(.none, .list ds)], .int i => atI ds i
  | _, _ => none
theorem ok_ix : OpOk K (rIx K) gIx := fun mu H x y d1 d2 d Q hm t1 t2 e k => by
  unfold gIx at e
  split at e
  · obtain ⟨a, xs, rfl, h1, u1⟩ := t1.list
    obtain ⟨v, e1, u2⟩ := atI_dt u1 e
    exact .inl ⟨a, xs, _, v, rfl, t2.inti, h1, e1, k _ H (fun _ _ z => z) u2⟩
  · obtain ⟨a, xs, rfl, h1, u1⟩ := t1.tuple
    obtain ⟨v, e1, u2⟩ := atI_dt u1 e
    exact .inr (.inl ⟨a, xs, _, v, rfl, t2.inti, h1, e1, k _ H (fun _ _ z => z) u2⟩)
  · split at e
    case isFalse => cases e
    rename_i hz
    simp only [Option.map_eq_some_iff] at e
    obtain ⟨c, e1, e2⟩ := e
    cases e2
    exact .inr (.inr ⟨_, _, c, t1.text, t2.inti, hz, e1, k _ H (fun _ _ z => z) (.str _)⟩)
  · obtain ⟨a, xs, rfl, h1, u1⟩ := t1.script
    obtain ⟨v, e1, u2⟩ := atI_dt u1 e
    exact .inl ⟨a, xs, _, v, rfl, t2.inti, h1, e1, k _ H (fun _ _ z => z) u2⟩
  · cases e

/-! ### built-ins -/
def gLen : List PyData → Option PyData
  | [.list ds] => some (.int ds.length)
  | [.tuple ds] => some (.int ds.length)
  | [.str x] => if x.length ≤ sizeLine then some (.int x.length) else none
  | [.dict [(.none, .list ds)]] => some (.int ds.length)
  | _ => none
theorem one_of {mu : Addr → Prop} {H : Hp} {xs : List V} {d : PyData} (t : DtAll K mu H xs [d]) : ∃ x, xs = [x] ∧ Dt K mu H x d := by
  cases t with
  | cons h r => cases r; exact ⟨_, rfl, h⟩
theorem two_of {mu : Addr → Prop} {H : Hp} {xs : List V} {d e : PyData} (t : DtAll K mu H xs [d, e]) : ∃ x y, xs = [x, y] ∧ Dt K mu H x d ∧ Dt K mu H y e := by
  cases t with
  | cons h r =>
    obtain ⟨y, rfl, h2⟩ := one_of r
    exact ⟨_, y, rfl, h, h2⟩
theorem ok_len : CallOk K (fun xs H Q => ∃ x n, xs = [x] ∧ LenV K x H n ∧ Q (.int n) H) gLen := fun mu H xs ds d Q hm t e k => by
  unfold gLen at e
  split at e
  · obtain ⟨x, rfl, t1⟩ := one_of t
    cases e
    obtain ⟨a, xs, rfl, h1, u1⟩ := t1.list
    exact ⟨_, _, rfl, .inl ⟨xs, h1, rfl⟩, by rw [u1.len]; exact k _ H (fun _ _ z => z) (.int _)⟩
  · obtain ⟨x, rfl, t1⟩ := one_of t
    cases e
    obtain ⟨a, xs, rfl, h1, u1⟩ := t1.tuple
    exact ⟨_, _, rfl, .inr ⟨xs, h1, rfl⟩, by rw [u1.len]; exact k _ H (fun _ _ z => z) (.int _)⟩
  · obtain ⟨x, rfl, t1⟩ := one_of t
    split at e
    case isFalse => cases e
    cases e
    exact ⟨_, _, rfl, (show LenV K x H _ by rw [t1.text]; exact ⟨by assumption, rfl⟩), k _ H (fun _ _ z => z) (.int _)⟩
  · obtain ⟨x, rfl, t1⟩ := one_of t
    cases e
    obtain ⟨a, xs, rfl, h1, u1⟩ := t1.script
    exact ⟨_, _, rfl, .inl ⟨xs, h1, rfl⟩, by rw [u1.len]; exact k _ H (fun _ _ z => z) (.int _)⟩
  · cases e
def gAbs : List PyData → Option PyData
  | [.int i] => some (.int (if i < 0 then -i else i))
  | _ => none
theorem ok_abs : CallOk K (fun xs H Q => ∃ i, xs = [.int i] ∧ Q (.int (if i < 0 then -i else i)) H) gAbs := fun mu H xs ds d Q hm t e k => by
  unfold gAbs at e
  split at e
  · obtain ⟨x, rfl, t1⟩ := one_of t
    cases e
    exact ⟨_, by rw [t1.inti], k _ H (fun _ _ z => z) (.int _)⟩
  · cases e
def gMax2 : List PyData → Option PyData
  | [.int i, .int j] => some (.int (if j > i then j else i))
  | _ => none
theorem ok_max2 : CallOk K (fun xs H Q => ∃ i j, xs = [.int i, .int j] ∧ Q (.int (if j > i then j else i)) H) gMax2 := fun mu H xs ds d Q hm t e k => by
  unfold gMax2 at e
  split at e
  · obtain ⟨x, y, rfl, t1, u⟩ := two_of t
    cases e
    exact ⟨_, _, by rw [t1.inti, u.inti], k _ H (fun _ _ z => z) (.int _)⟩
  · cases e
def gMin2 : List PyData → Option PyData
  | [.int i, .int j] => some (.int (if j < i then j else i))
  | _ => none
theorem ok_min2 : CallOk K (fun xs H Q => ∃ i j, xs = [.int i, .int j] ∧ Q (.int (if j < i then j else i)) H) gMin2 := fun mu H xs ds d Q hm t e k => by
  unfold gMin2 at e
  split at e
  · obtain ⟨x, y, rfl, t1, u⟩ := two_of t
    cases e
    exact ⟨_, _, by rw [t1.inti, u.inti], k _ H (fun _ _ z => z) (.int _)⟩
  · cases e
/-- int(..) of a number, of a truth -/
def gInt1 : List PyData → Option PyData
  | [.int i] => some (.int i)
  | [.bool b] => some (.int (if b then 1 else 0))
  | _ => none
theorem ok_int1 : CallOk K (fun xs H Q => (∃ i, xs = [.int i] ∧ Q (.int i) H) ∨ ∃ k, xs = [.bl k] ∧ Q (.int (if k then 1 else 0)) H) gInt1 := fun mu H xs ds d Q hm t e k => by
  unfold gInt1 at e
  split at e
  · obtain ⟨x, rfl, t1⟩ := one_of t
    cases e
    exact .inl ⟨_, by rw [t1.inti], k _ H (fun _ _ z => z) (.int _)⟩
  · obtain ⟨x, rfl, t1⟩ := one_of t
    cases e
    exact .inr ⟨_, by rw [t1.bool], k _ H (fun _ _ z => z) (.int _)⟩
  · cases e
/-- all, any of a list of truths -/
def truths : List PyData → Option (List Bool)
  | [] => some []
  | .bool b :: r => (truths r).map (b :: ·)
  | _ :: _ => none
theorem truths_map : ∀ {ds : List PyData} {bs : List Bool}, truths ds = some bs → ds = bs.map .bool
  | [], bs, h => by cases h; rfl
  | d :: r, bs, h => by
    unfold truths at h
    split at h
    · cases h; simp_all
    · rename_i b r' e
      simp only [Option.map_eq_some_iff] at h
      obtain ⟨bs', h1, h2⟩ := h
      injection e with e1 e2
      subst e1 e2 h2
      rw [List.map_cons, ← truths_map h1]
    · cases h
def gAll : List PyData → Option PyData
  | [.list ds] => (truths ds).map fun bs => .bool (bs.all id)
  | _ => none
theorem ok_all : CallOk K (rAll K) gAll := fun mu H xs ds d Q hm t e k => by
  unfold gAll at e
  split at e
  · obtain ⟨x, rfl, t1⟩ := one_of t
    simp only [Option.map_eq_some_iff] at e
    obtain ⟨bs, e1, e2⟩ := e
    cases e2
    obtain ⟨a, xs, rfl, h1, u1⟩ := t1.list
    rw [truths_map e1] at u1
    rw [u1.bools] at h1
    exact ⟨a, bs, rfl, h1, k _ H (fun _ _ z => z) (.bl _)⟩
  · cases e
def gAny : List PyData → Option PyData
  | [.list ds] => (truths ds).map fun bs => .bool (bs.any id)
  | _ => none
theorem ok_any : CallOk K (rAny K) gAny := fun mu H xs ds d Q hm t e k => by
  unfold gAny at e
  split at e
  · obtain ⟨x, rfl, t1⟩ := one_of t
    simp only [Option.map_eq_some_iff] at e
    obtain ⟨bs, e1, e2⟩ := e
    cases e2
    obtain ⟨a, xs, rfl, h1, u1⟩ := t1.list
    rw [truths_map e1] at u1
    rw [u1.bools] at h1
    exact ⟨a, bs, rfl, h1, k _ H (fun _ _ z => z) (.bl _)⟩
  · cases e
def gTuple : List PyData → Option PyData
  | [.list ds] => some (.tuple ds)
  | [.tuple ds] => some (.tuple ds)
  | _ => none
theorem ok_tuple : CallOk K (fun xs H Q => ∃ p ys, xs = [.ref p] ∧ ((SqL K H p ys ∧ ∀ l, H l = none → Q (.ref l) (upd H l (.tup ys))) ∨ (SqT K H p ys ∧ Q (.ref p) H))) gTuple := fun mu H xs ds d Q hm t e k => by
  unfold gTuple at e
  split at e
  · obtain ⟨x, rfl, t1⟩ := one_of t
    cases e
    obtain ⟨a, xs, rfl, h1, u1⟩ := t1.list
    exact ⟨a, xs, rfl, .inl ⟨h1, fun l hl => k _ _ (grow_new hl) (dt_newT hm hl u1)⟩⟩
  · obtain ⟨x, rfl, t1⟩ := one_of t
    cases e
    obtain ⟨a, xs, e1, h1, u1⟩ := t1.tuple
    subst e1
    exact ⟨a, xs, rfl, .inr ⟨h1, k _ H (fun _ _ z => z) t1⟩⟩
  · cases e
def gList : List PyData → Option PyData
  | [.list ds] => some (.list ds)
  | [.tuple ds] => some (.list ds)
  | _ => none
theorem ok_list : CallOk K (fun xs H Q => ∃ p ys, xs = [.ref p] ∧ (SqL K H p ys ∨ SqT K H p ys) ∧ ∀ l, H l = none → Q (.ref l) (upd H l (.lst ys))) gList := fun mu H xs ds d Q hm t e k => by
  unfold gList at e
  split at e
  · obtain ⟨x, rfl, t1⟩ := one_of t
    cases e
    obtain ⟨a, xs, rfl, h1, u1⟩ := t1.list
    exact ⟨a, xs, rfl, .inl h1, fun l hl => k _ _ (grow_new hl) (dt_newL hm hl u1)⟩
  · obtain ⟨x, rfl, t1⟩ := one_of t
    cases e
    obtain ⟨a, xs, rfl, h1, u1⟩ := t1.tuple
    exact ⟨a, xs, rfl, .inr h1, fun l hl => k _ _ (grow_new hl) (dt_newL hm hl u1)⟩
  · cases e
end
end Dl

namespace Dl
open PySem PySem.Spec PyProof.Rows L2

/-! ### == with a text, in among texts -/
/-- what may stand beside a text -/
def Okv (K : PySem.W.Frag) (H : Hp) (x : V) : Prop := flatV x = true ∨ ∃ a, x = .ref a ∧ ((∃ xs, SqL K H a xs) ∨ (∃ xs, SqT K H a xs) ∨ ∃ kvs, H a = some (.dK kvs))
def isTx (z : Str) : V → Bool
  | .str y => y == z
  | _ => false
section
variable {X : Cx} {K : PySem.W.Frag} {pins : List (Addr × Obj)} {σ : L2.St} {H : Hp} {s : Shared}
theorem isD_of (I : Inv X pins σ H s) {a : Addr} {kvs : List (Key × V)} (h : H a = some (.dK kvs)) : SeqAt.IsD s.heap a := by
  obtain ⟨_, _, vs, _, o, es, ep, h1, h2, h3, _⟩ := (show ObjOk X.prog X.w H s.heap a (.dK kvs) from I.hok a _ h)
  exact ⟨o, h1, h2.1, es, ep, h3⟩
theorem eq_text1 (I : Inv X pins σ H s) {A : Around} (hu : A.units < cLine) {x : V} {v : Value} {z : Str} {t : Tok} (rx : RelV x v) (h : Okv X.K H x) : SeqAt.EqAt A s v (.str z t) (isTx z x) := by
  rcases h with h | ⟨a, rfl, h⟩
  · have e := eqAt_V (A := A) (s := s) (y := x) (x := .str z) (u := v) (v := .str z t) rx ⟨t, rfl⟩ h rfl
    have e2 : eqV x (.str z) = isTx z x := by cases x <;> rfl
    rw [e2] at e; exact e
  · cases rx
    rcases h with ⟨xs, h⟩ | ⟨xs, h⟩ | ⟨kvs, h⟩
    · obtain ⟨its, r, p, _⟩ := I.list h
      exact SeqAt.EqAt.list_str z t p.isList hu
    · obtain ⟨its, r, p, _⟩ := I.tuple h
      exact SeqAt.EqAt.tuple_str z t p hu
    · exact SeqAt.EqAt.dict_str z t (isD_of I h) hu
theorem eq_text2 (I : Inv X pins σ H s) {A : Around} (hu : A.units < cLine) {x : V} {v : Value} {z : Str} {t : Tok} (rx : RelV x v) (h : Okv X.K H x) : SeqAt.EqAt A s (.str z t) v (isTx z x) := by
  rcases h with h | ⟨a, rfl, h⟩
  · have e := eqAt_V (A := A) (s := s) (y := .str z) (x := x) (u := .str z t) (v := v) ⟨t, rfl⟩ rx rfl h
    have e2 : eqV (.str z) x = isTx z x := by
      cases x <;> first | rfl | skip
      rename_i y
      show (z == y) = (y == z)
      rw [Bool.eq_iff_iff, beq_iff_eq, beq_iff_eq]
      exact ⟨Eq.symm, Eq.symm⟩
    rw [e2] at e; exact e
  · cases rx
    rcases h with ⟨xs, h⟩ | ⟨xs, h⟩ | ⟨kvs, h⟩
    · obtain ⟨its, r, p, _⟩ := I.list h
      exact SeqAt.EqAt.str_list z t p.isList hu
    · obtain ⟨its, r, p, _⟩ := I.tuple h
      exact SeqAt.EqAt.str_tuple z t p hu
    · exact SeqAt.EqAt.str_dict z t (isD_of I h) hu
end
section
variable {X : Cx} {K : PySem.W.Frag}
def rEqS (K : PySem.W.Frag) : R2 := fun x y H Q => ∃ z, y = .str z ∧ Okv K H x ∧ Q (.bl (isTx z x)) H
theorem op_eqS (hu : X.A.units + 1 < cLine) : OpR X (compareOp .Eq) (rEqS X.K) := fun pins s σ H x y v u Q I rx ry ⟨z, ey, ok, q⟩ => by
  subst ey
  obtain ⟨t, rfl⟩ := ry
  rcases ok with h | ⟨a, rfl, h⟩
  · refine op_eq pins s σ H x (.str z) v (.str z t) Q I rx ⟨t, rfl⟩ ⟨?_, ?_⟩
    · cases x <;> first | rfl | cases h
    · have e : decide (x = .str z) = isTx z x := by
        cases x <;> first | rfl | (cases h; done) | skip
        rw [dec_str]
        rfl
      rw [e]; exact q
  · cases rx
    have fin : EP X pins σ Q (.bool false) s := ⟨.bl false, H, I, rfl, q⟩
    rcases h with ⟨xs, h⟩ | ⟨xs, h⟩ | ⟨kvs, h⟩
    · obtain ⟨its, r, p, _⟩ := I.list h
      exact SeqAt.RcAt.list_str z t p.isList (by omega) X.prog X.w _ _ fin
    · obtain ⟨its, r, p, _⟩ := I.tuple h
      exact SeqAt.RcAt.tuple_str z t p (by omega) X.prog X.w _ _ fin
    · exact SeqAt.RcAt.dict_str z t (isD_of I h) (by omega) X.prog X.w _ _ fin
/-- the answer for an item that is a text -/
def txU (x : V) (u : Value) : Bool := match u with
  | .str z _ => isTx z x
  | _ => false
theorem any_txU {x : V} : ∀ {zs : List Str} {us : List Value}, Vals (zs.map V.str) us → us.any (txU x) = zs.any fun z => isTx z x
  | [], _, .nil => rfl
  | z :: zs, _, .cons r t => by
    obtain ⟨k, rfl⟩ := r
    rw [List.any_cons, List.any_cons, any_txU t]
    rfl
theorem mem_txU {pins : List (Addr × Obj)} {σ : L2.St} {H : Hp} {s : Shared} (I : Inv X pins σ H s) {A : Around} (hu : A.units < cLine) {x : V} {v : Value} (rx : RelV x v) (ok : Okv X.K H x) : ∀ {zs : List Str} {us : List Value}, Vals (zs.map V.str) us → ∀ u ∈ us, SeqAt.EqAt A s u v (txU x u)
  | [], _, .nil => fun u hu => by cases hu
  | z :: zs, _, .cons r t => fun u' hm => by
    rcases List.mem_cons.mp hm with e | hm
    · obtain ⟨k, e2⟩ := r
      rw [e, e2]
      exact eq_text2 I hu rx ok
    · exact mem_txU I hu rx ok t u' hm
def rInTx (K : PySem.W.Frag) (neg : Bool) : R2 := fun x y H Q => ∃ p, ∃ zs : List Str, y = .ref p ∧ (SqL K H p (zs.map V.str) ∨ SqT K H p (zs.map V.str)) ∧ Okv K H x ∧ Q (.bl (if neg then !(zs.any fun z => isTx z x) else zs.any fun z => isTx z x)) H
theorem op_inTx (hu : X.A.units + 1 < cLine) : OpR X (compareOp .In) (rInTx X.K false) := fun pins s σ H x y v u Q I rx ry ⟨p, zs, ey, hq, ok, q⟩ => by
  subst ey
  cases ry
  have hu1 : X.A.in1.units < cLine := hu
  rcases hq with hq | hq
  · obtain ⟨its, r, pl, _⟩ := I.list hq
    refine SeqAt.in_listAt (txU x) pl.isList (fun w hw => mem_txU I hu1 rx ok r w (by simpa using hw)) ⟨.bl _, H, I, rfl, ?_⟩
    rw [show its.toArray.any (txU x) = its.any (txU x) by simp, any_txU r]; exact q
  · obtain ⟨its, r, pl, _⟩ := I.tuple hq
    refine SeqAt.in_tupleAt (txU x) pl (fun w hw => mem_txU I hu1 rx ok r w (by simpa using hw)) ⟨.bl _, H, I, rfl, ?_⟩
    rw [show its.toArray.any (txU x) = its.any (txU x) by simp, any_txU r]; exact q
theorem op_notInTx (hu : X.A.units + 1 < cLine) : OpR X (compareOp .NotIn) (rInTx X.K true) := fun pins s σ H x y v u Q I rx ry ⟨p, zs, ey, hq, ok, q⟩ => by
  subst ey
  cases ry
  have hu1 : X.A.in1.units < cLine := hu
  rcases hq with hq | hq
  · obtain ⟨its, r, pl, _⟩ := I.list hq
    refine SeqAt.notIn_listAt (txU x) pl.isList (fun w hw => mem_txU I hu1 rx ok r w (by simpa using hw)) ⟨.bl _, H, I, rfl, ?_⟩
    rw [show its.toArray.any (txU x) = its.any (txU x) by simp, any_txU r]; exact q
  · obtain ⟨its, r, pl, _⟩ := I.tuple hq
    refine SeqAt.notIn_tupleAt (txU x) pl (fun w hw => mem_txU I hu1 rx ok r w (by simpa using hw)) ⟨.bl _, H, I, rfl, ?_⟩
    rw [show its.toArray.any (txU x) = its.any (txU x) by simp, any_txU r]; exact q
end
/-- neither the script nor what holds it -/
def plainD : PyData → Bool
  | .dict kvs => realD kvs
  | _ => true
section
variable {X : Cx} {K : PySem.W.Frag} {mu : Addr → Prop} {H : Hp}
theorem okv_of {v : V} {d : PyData} (t : Dt K mu H v d) (r : plainD d = true) : Okv K H v := by
  cases t with
  | lst h _ _ => exact .inr ⟨_, rfl, .inl ⟨_, .inl h⟩⟩
  | scr _ _ => cases r
  | tup h _ _ => exact .inr ⟨_, rfl, .inr (.inl ⟨_, .inl h⟩)⟩
  | tupK h _ => exact .inr ⟨_, rfl, .inr (.inl ⟨_, h H⟩)⟩
  | dct h _ _ => exact .inr ⟨_, rfl, .inr (.inr ⟨_, h⟩)⟩
  | exc _ _ => cases r
  | _ => exact .inl rfl
theorem isTx_eqv {v : V} {d : PyData} {z : Str} (t : Dt K mu H v d) : isTx z v = PyData.eqv d (.str z) := by
  cases t <;> simp [isTx, PyData.eqv]
def strsD : List PyData → Option (List Str)
  | [] => some []
  | .str x :: r => (strsD r).map (x :: ·)
  | _ :: _ => none
theorem strsD_map : ∀ {ds : List PyData} {zs : List Str}, strsD ds = some zs → ds = zs.map .str
  | [], zs, h => by cases h; rfl
  | d :: r, zs, h => by
    unfold strsD at h
    split at h
    · rename_i e; cases e
    · rename_i x r' e
      simp only [Option.map_eq_some_iff] at h
      obtain ⟨ws, h1, h2⟩ := h
      injection e with e1 e2
      subst e1 e2 h2
      rw [List.map_cons, ← strsD_map h1]
    · cases h
/-- in, not in -/
def inD (neg : Bool) (d : PyData) (ds : List PyData) : Option PyData :=
  if scalD d = true ∧ ds.all scalD = true then some (.bool (if neg then !ds.any (fun z => PyData.eqv z d) else ds.any fun z => PyData.eqv z d))
  else if plainD d = true then (strsD ds).map fun zs => .bool (if neg then !(zs.any fun z => PyData.eqv d (.str z)) else zs.any fun z => PyData.eqv d (.str z)) else none
def gIn (neg : Bool) : PyData → PyData → Option PyData
  | d, .list ds => inD neg d ds
  | d, .tuple ds => inD neg d ds
  | .str x, .str z => if x.cps.size = 1 then some (.bool (if neg then !decide (x.cps.getD 0 0 ∈ z.cps.toList) else decide (x.cps.getD 0 0 ∈ z.cps.toList))) else none
  | _, _ => none
def rInA (K : PySem.W.Frag) (neg : Bool) : R2 := fun x y H Q => (rIn K neg x y H Q ∨ rInTx K neg x y H Q) ∨ ∃ (c : Nat) (z : Str), x = .str ⟨#[c]⟩ ∧ y = .str z ∧ Q (.bl (if neg then !decide (c ∈ z.cps.toList) else decide (c ∈ z.cps.toList))) H
theorem op_inA (hu : X.A.units + 1 < cLine) : OpR X (compareOp .In) (rInA X.K false) := OpR.or (OpR.or op_in_seq (op_inTx hu)) op_in_sign
theorem op_notInA (hu : X.A.units + 1 < cLine) : OpR X (compareOp .NotIn) (rInA X.K true) := OpR.or (OpR.or op_notIn_seq (op_notInTx hu)) op_notIn_sign
theorem inD_ok {neg : Bool} {x : V} {d1 d : PyData} {ds : List PyData} {p : Addr} {xs : List V} {Q : VK} (t1 : Dt K mu H x d1) (h1 : SqL K H p xs ∨ SqT K H p xs) (u : DtAll K mu H xs ds) (e : inD neg d1 ds = some d)
    (k : ∀ v H', (∀ a o, H a = some o → H' a = some o) → Dt K mu H' v d → Q v H') : rInA K neg x (.ref p) H Q := by
  unfold inD at e
  split at e
  · rename_i hc
    cases e
    refine .inl (.inl ⟨p, xs, rfl, h1, scal_v t1 hc.1, scal_vs u hc.2, ?_⟩)
    rw [scal_any t1 hc.1 u hc.2]
    exact k _ H (fun _ _ z => z) (.bl _)
  · split at e
    case isFalse => cases e
    rename_i hp
    simp only [Option.map_eq_some_iff] at e
    obtain ⟨zs, e1, e2⟩ := e
    subst e2
    rw [strsD_map e1] at u
    rw [u.texts] at h1
    refine .inl (.inr ⟨p, zs, rfl, h1, okv_of t1 hp, ?_⟩)
    have q : (zs.any fun z => isTx z x) = zs.any fun z => PyData.eqv d1 (.str z) := by
      congr 1
      funext z
      exact isTx_eqv t1
    rw [q]
    exact k _ H (fun _ _ z => z) (.bl _)
theorem ok_in {neg : Bool} : OpOk K (rInA K neg) (gIn neg) := fun mu H x y d1 d2 d Q hm t1 t2 e k => by
  unfold gIn at e
  split at e
  · obtain ⟨p, xs, rfl, h1, u⟩ := t2.list
    exact inD_ok t1 (.inl h1) u e k
  · obtain ⟨p, xs, rfl, h1, u⟩ := t2.tuple
    exact inD_ok t1 (.inr h1) u e k
  · rename_i x1 z1
    split at e
    case isFalse => cases e
    rename_i hc
    cases e
    have ex : x1 = ⟨#[x1.cps.getD 0 0]⟩ := by
      obtain ⟨⟨l⟩⟩ := x1
      cases l with
      | nil => simp at hc
      | cons c r =>
        cases r with
        | nil => rfl
        | cons _ _ => simp at hc
    exact .inr ⟨x1.cps.getD 0 0, z1, by rw [t1.text, ← ex], t2.text, k _ H (fun _ _ z => z) (.bl _)⟩
  · cases e

/-! ### ==, != of data -/
mutual
/-- no dict in it -/
def noDct : PyData → Bool
  | .dict _ => false
  | .list xs => noDcts xs
  | .tuple xs => noDcts xs
  | _ => true
def noDcts : List PyData → Bool
  | [] => true
  | x :: xs => noDct x && noDcts xs
end
mutual
theorem Dt.dp : ∀ {v : V} {d : PyData}, Dt K mu H v d → noDct d = true → Dp K H v d
  | _, _, .non, _ => .non
  | _, _, .bl b, _ => .bl b
  | _, _, .int i, _ => .int i
  | _, _, .str x, _ => .str x
  | _, _, .lst h n t, e => .lst (.inl h) (DtAll.dp t (by simpa [noDct] using e))
  | _, _, .tup h n t, e => .tup (.inl h) (DtAll.dp t (by simpa [noDct] using e))
  | _, _, .tupK h t, e => .tup (h H) (DtAll.dp t (by simpa [noDct] using e))
  | _, _, .scr h t, e => by simp [noDct] at e
  | _, _, .dct h n t, e => by simp [noDct] at e
theorem DtAll.dp : ∀ {vs : List V} {ds : List PyData}, DtAll K mu H vs ds → noDcts ds = true → DpAll K H vs ds
  | _, _, .nil, _ => .nil
  | _, _, .cons h t, e => by
    simp only [noDcts, Bool.and_eq_true] at e
    exact .cons (Dt.dp h e.1) (DtAll.dp t e.2)
end
def isStrD : PyData → Bool
  | .str _ => true
  | _ => false
def isTupD : PyData → Option (List PyData)
  | .tuple ds => some ds
  | _ => none
/-- may both be compared by this layer: one is a text, or neither holds a dict -/
def gEq (d e : PyData) : Option PyData :=
  if isStrD e = true ∧ plainD d = true then some (.bool (PyData.eqv d e))
  else if (noDct d = true ∧ noDct e = true) ∧ SeqAt.shaped d = true ∧ SeqAt.shaped e = true then some (.bool (PyData.eqv d e))
  else match d, e with
    | .tuple ds, .tuple [] => some (.bool ds.isEmpty)
    | _, _ => none
def rEqT0 (K : PySem.W.Frag) : R2 := fun x y H Q => ∃ a b xs, x = .ref a ∧ y = .ref b ∧ SqT K H a xs ∧ SqT K H b [] ∧ Q (.bl xs.isEmpty) H
theorem op_eqT0 (hu : X.A.units + 1 < cLine) : OpR X (compareOp .Eq) (rEqT0 X.K) := fun pins s σ H x y v u Q I rx ry ⟨a, b, xs, ex, ey, h1, h2, q⟩ => by
  subst ex ey
  cases rx
  cases ry
  obtain ⟨its, r, p, _⟩ := I.tuple h1
  obtain ⟨its2, r2, p2, _⟩ := I.tuple h2
  cases r2
  refine PySem.W.eq_tuplesT (n := 0) (e := fun _ => true) p p2 (fun j h1 h2 => absurd h2 (by simp)) hu ⟨.bl xs.isEmpty, H, I, ?_, q⟩
  have hl := r.length
  cases xs with
  | nil =>
    cases r
    rfl
  | cons x xs =>
    cases r
    simp
    rfl
def rEqA (K : PySem.W.Frag) : R2 := fun x y H Q => (rEqS K x y H Q ∨ rEqD K x y H Q) ∨ rEqT0 K x y H Q
theorem op_eqA (hu : X.A.units + 64 < cLine) : OpR X (compareOp .Eq) (rEqA X.K) := OpR.or (OpR.or (op_eqS (by omega)) (op_eqD hu)) (op_eqT0 (by omega))
theorem ok_eq : OpOk K (rEqA K) gEq := fun mu H x y d1 d2 d Q hm t1 t2 e k => by
  unfold gEq at e
  split at e
  · rename_i hc
    cases e
    cases d2 with
    | str z =>
      refine .inl (.inl ⟨z, t2.text, okv_of t1 hc.2, ?_⟩)
      rw [isTx_eqv t1]
      exact k _ H (fun _ _ z => z) (.bl _)
    | _ => exact absurd hc.1 (by simp [isStrD])
  · split at e
    · rename_i hc
      cases e
      exact .inl (.inr ⟨d1, d2, t1.dp hc.1.1, t2.dp hc.1.2, hc.2.1, hc.2.2, k _ H (fun _ _ z => z) (.bl _)⟩)
    · split at e
      · rename_i ds0 _ _
        cases e
        obtain ⟨a, xs, rfl, h1, u1⟩ := t1.tuple
        obtain ⟨b, ys, rfl, h2, u2⟩ := t2.tuple
        cases u2
        have el : xs.isEmpty = ds0.isEmpty := by cases u1 <;> rfl
        refine .inr ⟨a, b, xs, rfl, rfl, h1, h2, ?_⟩
        rw [el]
        exact k _ H (fun _ _ z => z) (.bl _)
      · cases e
def gNe (d e : PyData) : Option PyData := if isStrD d = true ∧ isStrD e = true then some (.bool (!PyData.eqv d e))
  else if (noDct d = true ∧ noDct e = true) ∧ SeqAt.shaped d = true ∧ SeqAt.shaped e = true then some (.bool (!PyData.eqv d e)) else none
def rNeA (K : PySem.W.Frag) : R2 := fun x y H Q => rNe x y H Q ∨ rNeD K x y H Q
theorem op_neA (hu : X.A.units + 64 < cLine) : OpR X (compareOp .NotEq) (rNeA X.K) := OpR.or op_ne (op_neD hu)
theorem ok_ne : OpOk K (rNeA K) gNe := fun mu H x y d1 d2 d Q hm t1 t2 e k => by
  unfold gNe at e
  split at e
  · rename_i hc
    cases e
    cases d1 with
    | str a =>
      cases d2 with
      | str b =>
        have e1 := t1.text
        have e2 := t2.text
        subst e1 e2
        have q : (!decide (V.str a = V.str b)) = !PyData.eqv (.str a) (.str b) := by
          have e3 : PyData.eqv (.str a) (.str b) = (a == b) := rfl
          rw [e3]
          by_cases q : a = b
          · subst q; simp
          · have q2 : (a == b) = false := beq_eq_false_iff_ne.mpr q
            rw [q2]
            simp [q]
        exact .inl ⟨rfl, by rw [q]; exact k _ H (fun _ _ z => z) (.bl _)⟩
      | _ => cases hc.2
    | _ => cases hc.1
  · split at e
    · rename_i hc
      cases e
      exact .inr ⟨d1, d2, t1.dp hc.1.1, t2.dp hc.1.2, hc.2.1, hc.2.2, k _ H (fun _ _ z => z) (.bl _)⟩
    · cases e
/-- is, is not of truths, of None -/
def gIs (neg : Bool) : PyData → PyData → Option PyData
  | .bool a, .bool b => some (.bool (if neg then !decide (a = b) else decide (a = b)))
  | _, _ => none
theorem ok_isnot_bl : OpOk K (fun x y H Q => ∃ a b, x = .bl a ∧ y = .bl b ∧ Q (.bl (!decide (a = b))) H) (gIs true) := fun mu H x y d1 d2 d Q hm t1 t2 e k => by
  unfold gIs at e
  split at e
  · cases e
    exact ⟨_, _, t1.bool, t2.bool, k _ H (fun _ _ z => z) (.bl _)⟩
  · cases e
theorem ok_is_bl : OpOk K (fun x y H Q => ∃ a b, x = .bl a ∧ y = .bl b ∧ Q (.bl (decide (a = b))) H) (gIs false) := fun mu H x y d1 d2 d Q hm t1 t2 e k => by
  unfold gIs at e
  split at e
  · cases e
    exact ⟨_, _, t1.bool, t2.bool, k _ H (fun _ _ z => z) (.bl _)⟩
  · cases e
end
end Dl

namespace Dl
open PySem PySem.Spec PyProof.Rows L2

/-! ### isinstance -/
/-- the class of a tree -/
def tyD : PyData → Option String
  | .none => some "NoneType"
  | .bool _ => some "bool"
  | .int _ => some "int"
  | .str _ => some "str"
  | .list _ => some "list"
  | .tuple _ => some "tuple"
  | .dict kvs => if realD kvs = true then some "dict" else none
def isiB (a T : String) : Bool := a == T || (a == "bool" && T == "int")
/-- what the library's table says of such a class -/
def IsiT (T : String) : Prop := ∀ a ∈ ["NoneType", "bool", "int", "str", "list", "tuple", "dict"], kitB a T = some (isiB a T)
theorem isi_str : IsiT "str" := by unfold IsiT; decide +kernel
theorem isi_tuple : IsiT "tuple" := by unfold IsiT; decide +kernel
theorem isi_int : IsiT "int" := by unfold IsiT; decide +kernel
theorem isi_bool : IsiT "bool" := by unfold IsiT; decide +kernel
theorem isi_list : IsiT "list" := by unfold IsiT; decide +kernel
theorem isi_dict : IsiT "dict" := by unfold IsiT; decide +kernel
def gIsi (T : String) (d : PyData) : Option PyData := (tyD d).map fun a => .bool (isiB a T)
section
variable {X : Cx} {K : PySem.W.Frag} {mu : Addr → Prop} {H : Hp} {Z : Par} {a b e : Expr} {es : List Expr} {pos : Pos} {fa fb fc : DE} {ga : DA}
theorem tyD_mem {d : PyData} {n : String} (h : tyD d = some n) : n ∈ ["NoneType", "bool", "int", "str", "list", "tuple", "dict"] := by
  unfold tyD at h
  split at h <;> first | (cases h; decide) | (split at h <;> first | (cases h; decide) | cases h)
theorem tyX_of {v : V} {d : PyData} {n : String} (t : Dt K mu H v d) (h : tyD d = some n) : TyX K H v (.type n) := by
  cases t with
  | non => cases h; exact .base .non
  | bl b => cases h; exact .base (.bl b)
  | int i => cases h; exact .base (.int i)
  | str x => cases h; exact .base (.str x)
  | lst r _ _ =>
    cases h
    rcases r with r | ⟨o, r⟩
    · exact .base (.lst r)
    · exact .base (.frz r)
  | tup r _ _ =>
    cases h
    rcases r with r | ⟨o, r⟩
    · exact .base (.tup r)
    · exact .fTuple r
  | tupK r _ =>
    cases h
    rcases r (fun _ => none) with (r | ⟨o, r⟩) | ⟨o, its, m, h1, h2, _⟩
    · cases r
    · cases r
    · exact .kTuple h1 h2
  | scr _ _ =>
    simp [tyD, realD] at h
  | exc _ _ =>
    simp [tyD, realD] at h
  | dct r _ _ =>
    simp only [tyD] at h
    split at h
    · cases h; exact .base (.dK r)
    · cases h
/-- isinstance(e, T) -/
theorem disi {T : String} {x c : Str} {p p2 : Pos} (hT : IsiT T) (hg : Gl X x) (hm : X.mg x = none) (hv : bootBuiltins x = some (.builtin "isinstance")) (hg2 : Gl X c) (hm2 : X.mg c = none) (hv2 : bootBuiltins c = some (.type T)) (ha : PE X e (lft X.K Z fa))
    (hn : x ≠ "__name__" := by decide) (hdb : (x == ("__debug__" : Str)) = false := by decide) (hn2 : c ≠ "__name__" := by decide) (hdb2 : (c == ("__debug__" : Str)) = false := by decide)
    (he : starEach [e, .Name c p2] X.env = (false, eval e X.env) :: starEach [.Name c p2] X.env := by rfl) (he2 : starEach [.Name c p2] X.env = (false, eval (.Name c p2) X.env) :: starEach [] X.env := by rfl) (hpl : (backTo pos (starEach [.Name c p2] X.env)).any (·.1) = false := by rfl) :
    PE X (.Call (.Name x p) [e, .Name c p2] [] pos) (lft X.K Z (dUn (gIsi T) fa)) := PEimp (pe_callB call_isi hg hm hv (pa_cons ha (pa_cons (pe_bltn (v := .ty T) hg2 hm2 hv2 rfl hn2 hdb2) pa_nil he2) he) hn hdb he hpl) fun σ H Q h => by
  obtain ⟨M, s, d, s', rl, hf, k⟩ := h
  obtain ⟨d1, h1, h3⟩ := dUn_some hf
  unfold gIsi at h3
  simp only [Option.map_eq_some_iff] at h3
  obtain ⟨n, h4, h5⟩ := h3
  subst h5
  refine ⟨M, s, d1, s', rl, h1, fun v H1 k1 r1 t1 => ?_⟩
  exact ⟨v, .ty T, .type n, .type T, _, rfl, .ty T, tyX_of t1 h4, kit_ty (hT n (tyD_mem h4)), k _ H1 k1 r1 (.bl _)⟩

/-! ### slices -/
abbrev DO := Sl → Option (Option Int × Sl)
def oN : DO := fun s => some (none, s)
def oS (f : DE) : DO := fun s => (f s).bind fun p => match p.1 with
  | .int i => some (some i, p.2)
  | _ => none
def lfO (K : PySem.W.Frag) (Z : Par) (f : DO) : TO := fun σ H Q => ∃ M s d s', Rel K Z M σ H s ∧ f s = some (d, s') ∧ ∀ H', Kq Z M H M H' → Rel K Z M σ H' s' → Q d H'
theorem POimp {X : Cx} {e : Option Expr} {t t' : TO} (h : PO X e t) (i : ∀ σ H Q, t' σ H Q → t σ H Q) : PO X e t' := ⟨fun pins s σ H Q I q => h.run pins s σ H Q I (i σ H Q q)⟩
theorem don : PO X none (lfO X.K Z oN) := POimp po_none fun σ H Q h => by
  obtain ⟨M, s, d, s', rl, hf, k⟩ := h
  cases hf
  exact k H (Kq.refl _ _ _) rl
theorem dos (h : PE X e (lft X.K Z fa)) : PO X (some e) (lfO X.K Z (oS fa)) := POimp (po_some h) fun σ H Q h => by
  obtain ⟨M, s, d, s', rl, hf, k⟩ := h
  unfold oS at hf
  simp only [Option.bind_eq_some_iff] at hf
  obtain ⟨⟨d1, s1⟩, h1, h2⟩ := hf
  dsimp only at h2
  split at h2
  · cases h2
    exact ⟨M, s, _, _, rl, h1, fun v H1 k1 r1 t1 => ⟨_, t1.inti, k H1 k1 r1⟩⟩
  · cases h2
def cutD (xs : List PyData) (lo hi : Option Int) : List PyData := (xs.drop (HT.sIx xs.length 0 lo)).take (HT.sIx xs.length xs.length hi - HT.sIx xs.length 0 lo)
theorem cut_dt {xs : List V} {ds : List PyData} (t : DtAll K mu H xs ds) (lo hi : Option Int) : DtAll K mu H (cutV xs lo hi) (cutD ds lo hi) := by
  unfold cutV cutD
  rw [t.len]
  exact (t.drop _).take _
def gSl (d : PyData) (lo hi : Option Int) : Option PyData := match d with
  | .list ds => some (.list (cutD ds lo hi))
  | .tuple ds => some (.tuple (cutD ds lo hi))
  | .str x => if x.length ≤ sizeLine then some (.str (cutS x lo hi)) else none
  | _ => none
def dSl (f : DE) (lo hi : DO) : DE := fun s => (f s).bind fun p => (lo p.2).bind fun q => (hi q.2).bind fun r => (gSl p.1 q.1 r.1).map fun d => (d, r.2)
def rSlZ (K : PySem.W.Frag) : V → Option Int → Option Int → Hp → VK → Prop := fun x lo hi H Q => (rSlA K x lo hi H Q ∨ rSlL K x lo hi H Q) ∨ rSlS x lo hi H Q
theorem sl_Z : SlR X (rSlZ X.K) := SlR.or (SlR.or sl_tupA sl_list) sl_str
theorem whole_cut (ds : List PyData) {lo hi : Option Int} (h : HT.sIx ds.length 0 lo = 0 ∧ HT.sIx ds.length ds.length hi = ds.length) : cutD ds lo hi = ds := by
  unfold cutD
  rw [h.1, h.2]
  simp
theorem dsl {lo hi : Option Expr} {flo fhi : DO} {p2 : Pos} (he : PE X e (lft X.K Z fa)) (hl : PO X lo (lfO X.K Z flo)) (hu : PO X hi (lfO X.K Z fhi)) : PE X (.Subscript e (.Slice lo hi none p2) pos) (lft X.K Z (dSl fa flo fhi)) := PEimp (pe_slice sl_Z he hl hu) fun σ H Q h => by
  obtain ⟨M, s, d, s', rl, hf, k⟩ := h
  unfold dSl at hf
  simp only [Option.bind_eq_some_iff, Option.map_eq_some_iff] at hf
  obtain ⟨⟨d1, s1⟩, h1, ⟨o1, s2⟩, h2, ⟨o2, s3⟩, h3, d2, h4, h5⟩ := hf
  cases h5
  refine ⟨M, s, d1, s1, rl, h1, fun v H1 k1 r1 t1 => ⟨M, s1, o1, s2, r1, h2, fun H2 k2 r2 => ⟨M, s2, o2, _, r2, h3, fun H3 k3 r3 => ?_⟩⟩⟩
  have t3 := t1.mono (k2.trans k3).kp
  have kk := k1.trans (k2.trans k3)
  unfold gSl at h4
  dsimp only at h4
  split at h4
  · cases h4
    obtain ⟨a, xs, rfl, g1, u1⟩ := t3.list
    exact .inl (.inr ⟨a, xs, rfl, g1, fun p hp => k _ _ (kk.trans (kq_grow (grow_new hp))) (r3.grow (grow_new hp)) (dt_newL r3.muT hp (cut_dt u1 _ _))⟩)
  · cases h4
    obtain ⟨a, xs, ea, g1, u1⟩ := t3.tuple
    subst ea
    refine .inl (.inl ⟨a, xs, rfl, g1, fun hw => ?_, fun _ p hp => k _ _ (kk.trans (kq_grow (grow_new hp))) (r3.grow (grow_new hp)) (dt_newT r3.muT hp (cut_dt u1 _ _))⟩)
    rw [u1.len] at hw
    rw [whole_cut _ hw] at k
    exact k _ _ kk r3 t3
  · split at h4
    case isFalse => cases h4
    cases h4
    exact .inr ⟨_, t3.text, by assumption, k _ _ kk r3 (.str _)⟩
  · cases h4
end

/-! ### a tuple turned about -/
section
variable {prog : Program} {w : World} {A : Around} {E : Value → Shared → Prop} {s : Shared}
theorem applied_rev {sl : Addr} {vl vu vs : Value} {n : Nat} {Q : Int × Int × Nat → Shared → Prop} (hs : s.heap.IsSliceOf sl vl vu vs) (pl : IsPart vl none) (pu : IsPart vu none) (ps : IsPart vs (some (-1)))
    (h : Q ((n : Int) - 1, -1, n) s) : wpAny (model prog w) A (Builtin.Slice.sliceApplied (.ref sl) (pure (n : Int))) Q E s := by
  obtain ⟨os, hos, hcs, hds⟩ := id hs
  unfold Builtin.Slice.sliceApplied Builtin.Slice.sliceFields
  refine wpAny_bind (wpAny_bind (wpAny_field hos hds (x := vl) rfl (wpAny_bind (wpAny_field hos hds (x := vu) rfl (wpAny_bind (wpAny_field hos hds (x := vs) rfl (wpAny_pure ?_)))))))
  refine wpAny_bind (HT.slicePart_ ps ?_)
  show wpAny _ _ (if ((-1 : Int) == 0) = true then _ else _) _ _ s
  rw [if_neg (by decide)]
  refine wpAny_bind (HT.slicePart_ pl (wpAny_bind (HT.slicePart_ pu (wpAny_bind (wpAny_pure ?_)))))
  have e1 : Builtin.Slice.sliceAdjust none none (-1) (n : Int) = ((n : Int) - 1, -1) := rfl
  have e2 : Builtin.Slice.slicePlaces ((n : Int) - 1) (-1) (-1) = n := by
    unfold Builtin.Slice.slicePlaces
    rw [if_neg (by decide)]
    split
    · simp only [Int.neg_neg, Int.ediv_one]; omega
    · simp only [Int.toNat_zero]; omega
  show wpAny _ _ (match Builtin.Slice.sliceAdjust none none (-1) (n : Int) with | (lo, hi) => pure (lo, (-1 : Int), Builtin.Slice.slicePlaces lo hi (-1))) _ _ s
  rw [e1]
  show wpAny _ _ (pure ((n : Int) - 1, (-1 : Int), Builtin.Slice.slicePlaces ((n : Int) - 1) (-1) (-1))) _ _ s
  rw [e2]
  exact wpAny_pure h
theorem filterMap_some {α β : Type} {f : α → Option β} {g : α → β} : ∀ l : List α, (∀ m ∈ l, f m = some (g m)) → l.filterMap f = l.map g
  | [], _ => rfl
  | a :: l, h => by
    rw [List.filterMap_cons, h a List.mem_cons_self, List.map_cons, filterMap_some l fun m hm => h m (List.mem_cons_of_mem _ hm)]
theorem pick_rev (xs : Array Value) : ((List.range xs.size).filterMap fun (m : Nat) => xs[(((xs.size : Int) - 1) + (m : Int) * (-1)).toNat]?).toArray = xs.toList.reverse.toArray := by
  congr 1
  rw [filterMap_some (g := fun m => (xs.toList.reverse[m]?).getD .none) _ fun m hm => ?_]
  · apply List.ext_getElem?
    intro i
    by_cases hi : i < xs.size
    · have hl : i < xs.toList.reverse.length := by simpa using hi
      rw [List.getElem?_map, List.getElem?_range hi, List.getElem?_eq_getElem hl]
      simp only [Option.map_some, List.getElem?_eq_getElem hl, Option.getD_some]
    · rw [List.getElem?_eq_none (by simpa using hi), List.getElem?_eq_none (by simpa using hi)]
  · have hm := List.mem_range.mp hm
    have e : (((xs.size : Int) - 1) + (m : Int) * (-1)).toNat = xs.size - 1 - m := by omega
    have hl : m < xs.toList.reverse.length := by simpa using hm
    rw [e, ← Array.getElem?_toList, List.getElem?_eq_getElem hl, List.getElem_reverse, List.getElem?_eq_getElem (by simp; omega)]
    simp
theorem getItem_tuple_rev {t sl : Addr} {items : Array Value} {vl vu vs : Value} {Q : Value → Shared → Prop} (ht : IsTup s.heap t items) (hs : s.heap.IsSliceOf sl vl vu vs) (pl : IsPart vl none) (pu : IsPart vu none) (ps : IsPart vs (some (-1)))
    (h : Q (.ref s.heap.objs.size) { s with heap := s.heap.push { cls := .type "tuple", data := .seq items.toList.reverse.toArray } }) (hsz : items.size ≤ sizeLine) : wpAny (model prog w) A (getItem (.ref t) (.ref sl)) Q E s := by
  have hok : sizeOk (.seq items.toList.reverse.toArray) := by
    show items.toList.reverse.toArray.size ≤ sizeLine
    rw [List.size_toArray, List.length_reverse, Array.length_toList]
    exact hsz
  obtain ⟨os, hos, hcs, hds⟩ := id hs
  have hTy : s.TypeIs (.ref sl) "slice" := ⟨os, hos, hcs⟩
  unfold getItem
  try with_reducible refine wpAny_holding ?_
  first | refine wpAny_bind (wpAny_pure ?_) | skip
  refine wpAny_bind (wpAny_sequenceKey ht.typeIs (by decide) ?_)
  refine wpAny_bind (wpAny_callSpecial?_slot (name := Str.ofString "__getitem__") ht.typeIs PyProof.Rows.slot_tuple_getitem (wpAny_call_entry PyProof.Rows.slot_tuple_getitem ht.typeIs entry_tuple_getitem ?_ (args_tuple_getitem _ _)))
  show wpAny _ _ (Builtin.Tuple.tupleItemsOf (.ref t) >>= _) _ _ s
  refine wpAny_bind (tupleItemsOf_ ht ?_)
  refine wpAny_bind (wpAny_typeOf hTy ?_)
  rw [if_pos (by decide)]
  refine wpAny_bind (applied_rev hs pl pu ps ?_)
  have hno : ¬ ((((items.size : Int) - 1) == 0 && (-1 : Int) == 1 && items.size == items.size) = true) := by simp
  show wpAny _ _ (if (((items.size : Int) - 1) == 0 && (-1 : Int) == 1 && items.size == items.size) = true then _ else _) _ _ s
  rw [if_neg hno, pick_rev]
  first
    | exact wpAny_bind (m := Builtin.Tuple.tupleExact _) (wpAny_newObj_type (wpAny_pure ⟨_, rfl, wpAny_pure h⟩) hok)
    | exact wpAny_bind (m := Builtin.Tuple.tupleExact _) (wpAny_newObj_type (wpAny_bind (wpAny_pure (wpAny_pure ⟨_, rfl, wpAny_pure h⟩))) hok)
    | exact wpAny_bind (wpAny_bind (m := Builtin.Tuple.tupleExact _) (wpAny_newObj_type (wpAny_pure (wpAny_pure ⟨_, rfl, wpAny_pure h⟩)) hok))
    | exact wpAny_bind (wpAny_bind (m := Builtin.Tuple.tupleExact _) (wpAny_newObj_type (wpAny_pure ⟨_, rfl, wpAny_pure h⟩) hok))
end
def gRev : PyData → Option PyData
  | .tuple ds => some (.tuple ds.reverse)
  | _ => none
section
variable {X : Cx} {K : PySem.W.Frag} {mu : Addr → Prop} {H : Hp} {Z : Par} {a b e : Expr} {es : List Expr} {pos : Pos} {fa fb fc : DE} {ga : DA}
def tRevT (K : PySem.W.Frag) (te : TE) : TE := fun σ H Q => te σ H fun x H1 => ∃ a xs, x = .ref a ∧ SqT K H1 a xs ∧ ∀ p, H1 p = none → Q (.ref p) (upd H1 p (.tup xs.reverse))
theorem pe_revT {te : TE} {k : Nat} {p1 p2 p3 : Pos} (he : PE X e te) : PE X (.Subscript e (.Slice none none (some (.UnaryOp .USub (.Constant (.int 1) k p1) p2)) p3) pos) (tRevT X.K te) := by
  refine ⟨fun pins s σ H Q I h => ?_⟩
  refine Subscript_ (thn (he.run pins s σ H _ I h) fun v s1 ⟨x, H1, I1, r1, a, xs, ex, hx, q⟩ => ?_)
  subst ex
  cases r1
  have part3 : PO X (some (.UnaryOp .USub (.Constant (.int 1) k p1) p2)) (tPart (tUn (rU fun i => .int (-i)) (tC (.int 1)))) := po_some (pe_un un_neg pe_int)
  refine wpAny_Slice (thn (po_none.run pins s1 σ H1 (fun o H2 => o = none ∧ H2 = H1) I1 ⟨rfl, rfl⟩) fun vl s2 ⟨l, H2, I2, pl, el, e2⟩ => ?_)
  subst el e2
  refine thn (po_none.run pins s2 σ H2 (fun o H3 => o = none ∧ H3 = H2) I2 ⟨rfl, rfl⟩) fun vu s3 ⟨u, H3, I3, pu, eu, e3⟩ => ?_
  subst eu e3
  refine thn (part3.run pins s3 σ H3 (fun o H4 => o = some (-1) ∧ H4 = H3) I3 ⟨1, rfl, -1, rfl, rfl, rfl⟩) fun vs s4 ⟨o, H4, I4, ps, eo, e4⟩ => ?_
  subst eo e4
  have I5 : Inv X pins σ H4 { s4 with heap := s4.heap.push { cls := .type "slice", data := .fields #[vl, vu, vs] } } := I4.kept (t' := s4.toks) fun b ob q => Heap.get?_push_of_some _ q
  obtain ⟨its, r, ht, hz⟩ := I5.tuple hx
  have hlen := r.length
  show wpAny (model X.prog X.w) X.A (subscriptTail e (.Slice none none (some (.UnaryOp .USub (.Constant (.int 1) k p1) p2)) p3) (.ref a) (.ref s4.heap.objs.size)) (EP X pins σ Q) X.xe { s4 with heap := s4.heap.push { cls := .type "slice", data := .fields #[vl, vu, vs] } }
  refine tail_any (ops := [.ref a, .ref s4.heap.objs.size]) ht.typeIs (PyProof.Rows.slot_tuple_getitem.lookup) ?_ (by with_unfolding_all rfl)
  refine getItem_tuple_rev ht (Heap.IsSliceOf.new _ vl vu vs) pl pu ps ?_ (by rw [List.size_toArray]; omega)
  refine ⟨.ref _, _, I5.laid (t' := s4.toks) (o := .tup xs.reverse) (fun b ob q => Heap.get?_push_of_some _ q) (Nat.le_refl _) ?_, rfl, q _ (I5.hok.fresh (Nat.le_refl _))⟩
  exact ⟨by rw [List.length_reverse]; exact hz, _, r.reverse, IsTup.new _ _⟩
theorem drev {k : Nat} {p1 p2 p3 : Pos} (he : PE X e (lft X.K Z fa)) : PE X (.Subscript e (.Slice none none (some (.UnaryOp .USub (.Constant (.int 1) k p1) p2)) p3) pos) (lft X.K Z (dUn gRev fa)) := PEimp (pe_revT he) fun σ H Q h => by
  obtain ⟨M, s, d, s', rl, hf, k⟩ := h
  obtain ⟨d1, h1, h3⟩ := dUn_some hf
  unfold gRev at h3
  split at h3
  · cases h3
    refine ⟨M, s, _, s', rl, h1, fun v H1 k1 r1 t1 => ?_⟩
    obtain ⟨a, xs, rfl, g1, u1⟩ := t1.tuple
    exact ⟨a, xs, rfl, g1, fun p hp => k _ _ (k1.trans (kq_grow (grow_new hp))) (r1.grow (grow_new hp)) (dt_newT r1.muT hp u1.rev)⟩
  · cases h3
end
end Dl

namespace Dl
open PySem PySem.Spec PyProof.Rows L2

/-! ### walked: a list, a tuple, a text's signs -/
def itA (f : DE) : DF := fun s => (f s).bind fun p => match p.1 with
  | .list ds => some (ds, p.2)
  | .tuple ds => some (ds, p.2)
  | .str x => some (signs x, p.2)
  | _ => none
def gNeg : PyData → Option PyData
  | .int i => some (.int (-i))
  | _ => none
/-- a constant of the module -/
def GC (K : PySem.W.Frag) (mg : Str → Option Value) (x : Str) (d : PyData) : Prop := ∃ u v, mg x = some u ∧ RelV v u ∧ ∀ mu H, Dt K mu H v d
/-- x op= e -/
def sAug (g : PyData → PyData → Option PyData) (i : Nat) (f : DE) : DS := fun s => (dVar i s).bind fun q => (f s).bind fun p => (g q.1 p.1).map fun d => .nx (p.2.set i (.dat d))
def gAddS : PyData → PyData → Option PyData
  | .int a, .int b => some (.int (a + b))
  | .str a, .str b => if a.length + b.length ≤ sizeLine then some (.str (a ++ b)) else none
  | _, _ => none
section
variable {X : Cx} {Z : Par} {tg a b e : Expr} {es : List Expr} {pos : Pos} {fa fb fc : DE} {ff : DF} {ga : DA} {st : Stmt} {sts : List Stmt} {f g : DS} {t : DT}
theorem pia (h : PE X e (lft X.K Z fa)) : PI X tg e (lfI X.K Z (itA fa)) := ⟨fun pins s0 σ H R I hq => by
  obtain ⟨M, s, ds, s', rl, hf, k⟩ := hq
  unfold itA at hf
  simp only [Option.bind_eq_some_iff] at hf
  obtain ⟨⟨d1, s1⟩, h1, h2⟩ := hf
  dsimp only at h2
  split at h2
  · cases h2
    exact (pil h).run pins s0 σ H R I ⟨M, s, _, _, rl, (by unfold itL; rw [h1]; rfl), k⟩
  · cases h2
    exact (pit h).run pins s0 σ H R I ⟨M, s, _, _, rl, (by unfold itT; rw [h1]; rfl), k⟩
  · cases h2
    exact (pis h).run pins s0 σ H R I ⟨M, s, _, _, rl, (by unfold itS; rw [h1]; rfl), k⟩
  · cases h2⟩
theorem ok_neg {K : PySem.W.Frag} : UnOk K (rU fun i => .int (-i)) gNeg := fun mu H x d1 d Q hm t1 e k => by
  unfold gNeg at e
  split at e
  · cases e
    exact ⟨_, t1.inti, k _ H (fun _ _ z => z) (.int _)⟩
  · cases e
theorem dgc {x : Str} {d : PyData} (hg : Gl X x) (c : GC X.K X.mg x d) (hd : (x == ("__debug__" : Str)) = false := by decide) : PE X (.Name x pos) (lft X.K Z (dC d)) := by
  obtain ⟨u, v, h1, h2, h3⟩ := c
  exact dg hg h1 h2 h3 hd
theorem ssetLc {i : Nat} {y x : Str} {py px : Pos} {elt iter : Expr} {ifs : List Expr} {scope : Scope} {j : Nat} {spos : Pos} (hc : X.calm = true) (hN : X.N.Nodup) (hy : X.N[i]? = some y) (hyl : X.env.scope.names.lookup y = some .local)
    (hsw : swapsWith (.ListComp elt [⟨.Name x px, iter, ifs, 0⟩] scope pos) (some (.Name y py)) spos.line X.env = pure true) (hi : PI X (.Name x px) iter (lfI X.K Z ff)) (ok : BlkOk X.N X.env.scope scope [(x, j)])
    (hg : ∀ (s : Shared) (H : Hp) (C : Addr) (cl : List (Str × Addr)) (fp : List Addr), PG (X.blk s H scope (compEnvC scope cl C X.env) fp) (.Name x px) (gName j))
    (ht : ∀ (s : Shared) (H : Hp) (C : Addr) (cl : List (Str × Addr)) (fp : List Addr) (Z : Par), PTs (X.blk s H scope (compEnvC scope cl C X.env) fp) ifs (lfT X.K Z t))
    (he : ∀ (s : Shared) (H : Hp) (C : Addr) (cl : List (Str × Addr)) (fp : List Addr) (Z : Par), PE (X.blk s H scope (compEnvC scope cl C X.env) fp) elt (lft X.K Z fa)) (hs : ∀ x, foldedSetIterable iter X.env x = pure x := by intro _; rfl) :
    PS X (.Assign [.Name y py] (.ListComp elt [⟨.Name x px, iter, ifs, 0⟩] scope pos) spos) (lfS X.K Z (sSet i (dL (fLc ff j t fa)))) :=
  PSimp (ps_setLc hc hN hy hyl hsw hi ok hg (tt := fun σ H Q => ∃ Z, lfT X.K Z t σ H Q) (te := fun σ H Q => ∃ Z, lft X.K Z fa σ H Q)
    (fun s H0 C cl fp => ⟨fun pins s' σ H Q I ⟨Z, q⟩ => (ht s H0 C cl fp Z).run pins s' σ H Q I q⟩) (fun s H0 C cl fp => ⟨fun pins s' σ H Q I ⟨Z, q⟩ => (he s H0 C cl fp Z).run pins s' σ H Q I q⟩) hs) fun D σ H h => by
  obtain ⟨M, s, fl, rl, h1, k⟩ := h
  unfold sSet dL at h1
  simp only [Option.map_eq_some_iff] at h1
  obtain ⟨⟨d, s1⟩, ⟨⟨ds, s2⟩, h1, h3⟩, h2⟩ := h1
  cases h3
  cases h2
  refine lift_lc (Z := Z) (t := t) (fa := fa) (ff := ff) (K := X.K) (j := j) (σ := σ) (H := H) (Q := fun x H1 => gName i x σ H1 D.nx) (fun Z _ _ _ q => ⟨Z, q⟩) (fun Z _ _ _ q => ⟨Z, q⟩) ⟨M, s, ds, _, rl, h1, fun p xs H' hp hx k1 r1 t1 => ?_⟩
  have td : Dt X.K (Mu Z M) H' (.ref p) (.list ds) := .lst (.inl hx) (fun q => by
    obtain ⟨o, e⟩ := rl.muT p q
    rw [hp] at e; cases e) (t1.mono kp_drop)
  obtain ⟨M', _, r2, k2⟩ := r1.unadd.setDat td i
  exact k M' _ H' (k1.trans k2) r2
theorem saug {i : Nat} {x : Str} {pos' : Pos} {op : Operator} {ti : TIp} {g : PyData → PyData → Option PyData} (hN : X.N.Nodup) (hi : X.N[i]? = some x) (hx : Loc X.env.scope x) (he : PE X e (lft X.K Z fa)) (ho : PIp X op ti) (ok : OpOk X.K ti g)
    (hf : X.fn x = true ∨ X.env.scope.names.lookup x = some .local := by first | exact .inl rfl | exact .inr rfl | assumption) : PS X (.AugAssign (.Name x pos') op e pos) (lfS X.K Z (sAug g i fa)) := PSimp (ps_aug hN hi hx he ho hf) fun D σ H h => by
  obtain ⟨M, s, fl, rl, h1, k⟩ := h
  unfold sAug at h1
  simp only [Option.bind_eq_some_iff, Option.map_eq_some_iff] at h1
  obtain ⟨⟨d0, s0⟩, h0, ⟨d1, s1⟩, h1, d2, h2, h3⟩ := h1
  cases h3
  obtain ⟨e0, _⟩ := dVar_some h0
  obtain ⟨v, g1, g2⟩ := rl.sl.get e0
  refine ⟨v, g1, M, s, d1, s1, rl, h1, fun w H1 k1 r1 t1 => ?_⟩
  refine ok (Mu Z M) H1 v w _ d1 d2 _ r1.muT (g2.mono k1.kp) t1 h2 fun z H2 gr t2 => ?_
  obtain ⟨M', _, r2, k2⟩ := (r1.grow gr).setDat t2 i
  exact k M' _ H2 (k1.trans ((kq_grow gr).trans k2)) r2
end

/-! ### a def that makes a list which nobody else has -/
def lfR (K : PySem.W.Frag) (Z : Par) (g : DF) : TS := fun D σ H => ∃ M s ds s', Rel K Z M σ H s ∧ g s = some (ds, s') ∧ ∀ M' σ' p xs H', Z.H0 p = none → H' p = some (.lst xs) → Rel K (Z.add p) M' σ' H' s' → DtAll K (Mu (Z.add p) M') H' xs ds → D.rt (.ref p) H'
def rSeq (f : DS) (g : DF) : DF := fun s => (f s).bind fun fl => match fl with
  | .nx s' => g s'
  | _ => none
section
variable {X : Cx} {Z : Par} {tg a b e : Expr} {es : List Expr} {pos : Pos} {fa fb fc : DE} {ff : DF} {ga : DA} {st : Stmt} {sts : List Stmt} {f : DS} {t : DT}
theorem rret (he : PE X e (lfF X.K Z ff)) : PS X (.Return (some e) pos) (lfR X.K Z ff) := PSimp (ps_ret he) fun D σ H h => by
  obtain ⟨M, s, ds, s', rl, hf, k⟩ := h
  refine ⟨M, s, ds, s', rl, hf, fun p xs H' hp hx k1 r1 t1 => k M σ p xs H' ?_ hx r1 t1⟩
  cases q : Z.H0 p with
  | none => rfl
  | some o =>
    have npp : Z.p ≠ some p := fun z => by
      obtain ⟨u, e⟩ := rl.pt p z
      rw [hp] at e; cases e
    have := rl.base p o q npp
    rw [hp] at this; cases this
theorem rone (h : PS X st (lfR X.K Z ff)) : PSs X [st] (lfR X.K Z ff) := pss_one h
theorem rcons (h1 : PS X st (lfS X.K Z f)) (h2 : PSs X sts (lfR X.K Z ff)) : PSs X (st :: sts) (lfR X.K Z (rSeq f ff)) := PSsimp (pss_cons h1 h2) fun D σ H h => by
  obtain ⟨M, s, ds, s', rl, hf, k⟩ := h
  unfold rSeq at hf
  simp only [Option.bind_eq_some_iff] at hf
  obtain ⟨fl, h1, h2⟩ := hf
  cases fl with
  | nx s1 => exact ⟨M, s, .nx s1, rl, h1, fun M1 σ1 H1 k1 r1 => ⟨M1, s1, ds, s', r1, h2, fun M' σ' p xs H' hp hx r2 t2 => k M' σ' p xs H' hp hx r2 t2⟩⟩
  | _ => cases h2
end
def fnF (N : List Str) (n : Nat) (g : DF) : List PyData → Option (List PyData) := fun ds => if ds.length = n then (g (startS N ds)).map (·.1) else none
theorem okF {P : Program} {w : World} {K : PySem.W.Frag} {mg : Str → Option Value} {base : Heap} {x qual : Str} {st : Stmt} {f : Addr} {fd : FuncData} {N ps : List Str} {k : Nat} {g : DF} (F : Fun K x qual st f fd) (S : FnScope N ps (defScope st))
    (hb : ∀ (cdv : Value) (A : Around) (outer : List Env) (s : Shared) (H : Hp) (E : XK) (Z : Par), Room k (A.deeper (envOfC qual (defScope st) s.heap.objs.size f cdv)) → PSs (cxOf CX0 P w K mg base N qual (defScope st) f cdv A outer s H E).nox (defBody st) (lfR K Z g)) :
    FnOk P w K mg base CX0 (k + 1) f fd ps (spF K (fnF N ps.length g)) := by
  refine F.ok S (fun vs H Q E h => ?_) (fun cdv A outer s H vs Q E hr h => ?_)
  · obtain ⟨mu, ds, es, h1, h2, h3, h4⟩ := h
    unfold fnF at h3
    split at h3
    · rename_i hl
      rw [h2.len]; exact hl
    · cases h3
  · obtain ⟨mu, ds, es, h1, h2, h3, h4⟩ := h
    unfold fnF at h3
    split at h3
    case isFalse => cases h3
    simp only [Option.map_eq_some_iff] at h3
    obtain ⟨⟨es', s'⟩, hq, h5⟩ := h3
    cases h5
    let Z : Par := ⟨H, none, mu⟩
    refine ⟨_, hb cdv A outer s H E Z hr, [], startS N ds, _, s', ?_, hq, fun M' σ' p xs H' hp hx r t => ?_⟩
    · have muE : ∀ a, Mu Z [] a → mu a := fun a q => by
        rcases q with q | q | q
        · exact q
        · cases q
        · cases q
      refine ⟨fun a o e _ => e, fun a ha => (by cases ha), h1, fun a ha => (by cases ha), ?_⟩
      unfold startS L2.start
      rw [h2.len]
      exact slAll_start _ (h2.mono fun a o e n => ⟨e, fun z => n (muE a z)⟩)
    · refine h4 p xs H' hp (fun a o e => r.base a o e (fun z => by cases z)) hx (t.mono fun a o e n => ⟨e, fun z => n ?_⟩)
      rcases z with z | z
      · exact .inl (.inl z)
      · exact .inl (.inr z)

/-! ### a def as it is called -/
def Cal (P : Program) (w : World) (K : PySem.W.Frag) (mg : Str → Option Value) (base : Heap) (k : Nat) (x : Str) (ps : List Str) (sp : Sp) : Prop := ∃ (f : Addr) (fd : FuncData), FnOk P w K mg base CX0 k f fd ps sp ∧ mg x = some (.ref f) ∧ PySem.W.keepIn K (.ref f) = true ∧ Binds K fd ps []
/-- where a def of the text stands -/
def Std (K : PySem.W.Frag) (mg : Str → Option Value) (x : Str) (st : Stmt) (ps : List Str) : Prop := ∃ (f : Addr) (fd : FuncData), Fun K x x st f fd ∧ mg x = some (.ref f) ∧ Binds K fd ps []
section
variable {P : Program} {w : World} {K : PySem.W.Frag} {mg : Str → Option Value} {base : Heap}
theorem calP {x : Str} {st : Stmt} {N ps : List Str} {k : Nat} {b : DS} (F : Std K mg x st ps) (S : FnScope N ps (defScope st))
    (hb : ∀ (f : Addr) (cdv : Value) (A : Around) (outer : List Env) (s : Shared) (H : Hp) (E : XK) (Z : Par), Room k (A.deeper (envOfC x (defScope st) s.heap.objs.size f cdv)) → PSs (cxOf CX0 P w K mg base N x (defScope st) f cdv A outer s H E).nox (defBody st) (lfS K Z b)) :
    Cal P w K mg base (k + 1) x ps (spP K (fnP N ps.length b)) := by
  obtain ⟨f, fd, F, hm, hb2⟩ := F
  exact ⟨f, fd, okP F S (fun cdv A outer s H E Z hr => hb f cdv A outer s H E Z hr), hm, F.kp, hb2⟩
theorem calM {x : Str} {st : Stmt} {N ps : List Str} {k : Nat} {b : DS} (F : Std K mg x st ps) (S : FnScope N ps (defScope st))
    (hb : ∀ (f : Addr) (cdv : Value) (A : Around) (outer : List Env) (s : Shared) (H : Hp) (E : XK) (Z : Par), Room k (A.deeper (envOfC x (defScope st) s.heap.objs.size f cdv)) → PSs (cxOf CX0 P w K mg base N x (defScope st) f cdv A outer s H E).nox (defBody st) (lfS K Z b)) :
    Cal P w K mg base (k + 1) x ps (spM K (fnM N ps.length b)) := by
  obtain ⟨f, fd, F, hm, hb2⟩ := F
  exact ⟨f, fd, okM F S (fun cdv A outer s H E Z hr => hb f cdv A outer s H E Z hr), hm, F.kp, hb2⟩
theorem calF {x : Str} {st : Stmt} {N ps : List Str} {k : Nat} {g : DF} (F : Std K mg x st ps) (S : FnScope N ps (defScope st))
    (hb : ∀ (f : Addr) (cdv : Value) (A : Around) (outer : List Env) (s : Shared) (H : Hp) (E : XK) (Z : Par), Room k (A.deeper (envOfC x (defScope st) s.heap.objs.size f cdv)) → PSs (cxOf CX0 P w K mg base N x (defScope st) f cdv A outer s H E).nox (defBody st) (lfR K Z g)) :
    Cal P w K mg base (k + 1) x ps (spF K (fnF N ps.length g)) := by
  obtain ⟨f, fd, F, hm, hb2⟩ := F
  exact ⟨f, fd, okF F S (fun cdv A outer s H E Z hr => hb f cdv A outer s H E Z hr), hm, F.kp, hb2⟩
theorem Std.noneM {x : Str} {st : Stmt} {ps : List Str} (c : Std K mg x st ps) (k : Nat) : Cal P w K mg base k x ps (spM K fun _ _ => none) := by
  obtain ⟨f, fd, F, hm, hb⟩ := c
  refine ⟨f, fd, ⟨fun vs H Q E h => ?_, fun A outer s H args us vs Q E hr e hb hv h => ?_⟩, hm, F.kp, hb⟩
  · obtain ⟨_, _, _, _, _, _, _, _, _, _, _, _, _, _, h, _⟩ := h
    cases h
  · obtain ⟨_, _, _, _, _, _, _, _, _, _, _, _, _, _, h, _⟩ := h
    cases h
theorem Std.noneP {x : Str} {st : Stmt} {ps : List Str} (c : Std K mg x st ps) (k : Nat) : Cal P w K mg base k x ps (spP K fun _ => none) := by
  obtain ⟨f, fd, F, hm, hb⟩ := c
  refine ⟨f, fd, ⟨fun vs H Q E h => ?_, fun A outer s H args us vs Q E hr e hb hv h => ?_⟩, hm, F.kp, hb⟩
  · obtain ⟨_, _, _, _, _, h, _⟩ := h
    cases h
  · obtain ⟨_, _, _, _, _, h, _⟩ := h
    cases h
theorem Cal.impP {x : Str} {ps : List Str} {k : Nat} {m m' : List PyData → Option PyData} (c : Cal P w K mg base k x ps (spP K m)) (h : ∀ ds d, m' ds = some d → m ds = some d) : Cal P w K mg base k x ps (spP K m') := by
  obtain ⟨f, fd, F, r⟩ := c
  refine ⟨f, fd, F.imp fun vs H Q E q => ?_, r⟩
  obtain ⟨mu, ds, d, h1, h2, h3, h4⟩ := q
  exact ⟨mu, ds, d, h1, h2, h ds d h3, h4⟩
theorem Cal.impM {x : Str} {ps : List Str} {k : Nat} {m m' : List PyData → List PyData → Option (PyData × List PyData)} (c : Cal P w K mg base k x ps (spM K m)) (h : ∀ pd ds d, m' pd ds = some d → m pd ds = some d) : Cal P w K mg base k x ps (spM K m') := by
  obtain ⟨f, fd, F, r⟩ := c
  refine ⟨f, fd, F.imp fun vs H Q E q => ?_, r⟩
  obtain ⟨mu, p, xs, pd, rest, ds, d, pd', h1, h2, h3, h4, h5, h6, h7, h8⟩ := q
  exact ⟨mu, p, xs, pd, rest, ds, d, pd', h1, h2, h3, h4, h5, h6, h _ _ _ h7, h8⟩
theorem Cal.mono {x : Str} {ps : List Str} {j k : Nat} {sp : Sp} (c : Cal P w K mg base j x ps sp) (h : j ≤ k) : Cal P w K mg base k x ps sp := by
  obtain ⟨f, fd, F, r⟩ := c
  exact ⟨f, fd, F.mono h, r⟩
end
section
variable {X : Cx} {Z : Par} {a b e : Expr} {es : List Expr} {pos : Pos} {fa fb fc : DE} {ff : DF} {ga : DA} {k j : Nat} {ps : List Str} {x : Str} {p : Pos}
theorem dcl {m : List PyData → Option PyData} (c : Cal X.prog X.w X.K X.mg X.base j x ps (spP X.K m)) (hr : Room k X.A) (hj : j ≤ k) (hg : Gl X x) (ha : PA X (e :: es) (lfA X.K Z ga)) (hx : Passes CX0 X E0 := by exact pass0)
    (hdb : (x == ("__debug__" : Str)) = false := by decide) (he : starEach (e :: es) X.env = (false, eval e X.env) :: starEach es X.env := by rfl) (hpl : (backTo pos (starEach es X.env)).any (·.1) = false := by rfl) :
    PE X (.Call (.Name x p) (e :: es) [] pos) (lft X.K Z (dCall m ga)) := by
  obtain ⟨f, fd, F, hm, hk, hb⟩ := c
  exact dcall F (hr.mono hj) hg hm hk hb ha hx hdb he hpl
theorem dcl0 {m : List PyData → Option PyData} (c : Cal X.prog X.w X.K X.mg X.base j x ps (spP X.K m)) (hr : Room k X.A) (hj : j ≤ k) (hg : Gl X x) (hx : Passes CX0 X E0 := by exact pass0)
    (hdb : (x == ("__debug__" : Str)) = false := by decide) : PE X (.Call (.Name x p) [] [] pos) (lft X.K Z (dCall m aNil)) := by
  obtain ⟨f, fd, F, hm, hk, hb⟩ := c
  exact dcall0 F (hr.mono hj) hg hm hk hb hx hdb
theorem dclM {m : List PyData → List PyData → Option (PyData × List PyData)} (i : Nat) (c : Cal X.prog X.w X.K X.mg X.base j x ps (spM X.K m)) (hr : Room k X.A) (hj : j ≤ k) (hg : Gl X x) (h1 : PE X e (tVar i)) (ha : PA X es (lfA X.K Z ga)) (hx : Passes CX0 X E0 := by exact pass0)
    (hdb : (x == ("__debug__" : Str)) = false := by decide) (he : starEach (e :: es) X.env = (false, eval e X.env) :: starEach es X.env := by rfl) (hpl : (backTo pos (starEach es X.env)).any (·.1) = false := by rfl) :
    PE X (.Call (.Name x p) (e :: es) [] pos) (lft X.K Z (dCallM m i ga)) := by
  obtain ⟨f, fd, F, hm, hk, hb⟩ := c
  exact dcallM i F (hr.mono hj) hg hm hk hb h1 ha hx hdb he hpl
theorem fcl {m : List PyData → Option (List PyData)} (c : Cal X.prog X.w X.K X.mg X.base j x ps (spF X.K m)) (hr : Room k X.A) (hj : j ≤ k) (hg : Gl X x) (ha : PA X (e :: es) (lfA X.K Z ga)) (hx : Passes CX0 X E0 := by exact pass0)
    (hdb : (x == ("__debug__" : Str)) = false := by decide) (he : starEach (e :: es) X.env = (false, eval e X.env) :: starEach es X.env := by rfl) (hpl : (backTo pos (starEach es X.env)).any (·.1) = false := by rfl) :
    PE X (.Call (.Name x p) (e :: es) [] pos) (lfF X.K Z (fCall m ga)) := by
  obtain ⟨f, fd, F, hm, hk, hb⟩ := c
  exact fcall F (hr.mono hj) hg hm hk hb ha hx hdb he hpl
end
end Dl

/-! ### len(set(..)) of texts -/
namespace Dl
open PySem PySem.Spec PyProof.Rows L2
/-- how many unlike ones -/
def unlike : List Str → List Str → Nat
  | _, [] => 0
  | seen, z :: r => if z ∈ seen then unlike seen r else unlike (z :: seen) r + 1
/-- .. among the first i -/
def unl (zs : List Str) : Nat → Nat
  | 0 => 0
  | i + 1 => match zs[i]? with
    | some z => if z ∈ zs.take i then unl zs i else unl zs i + 1
    | none => unl zs i
theorem unl_le (zs : List Str) : ∀ i, unl zs i ≤ i
  | 0 => Nat.le_refl _
  | i + 1 => by
    have h := unl_le zs i
    unfold unl
    split
    · split <;> omega
    · omega
theorem setOf_as {P : Program} {w : World} {h : Heap} {a : Addr} {S S' : Str → Bool} {n n' : Nat} (R : h.SetOf (PySem.strKind P w) a S n) (e : ∀ k, S k = S' k) (en : n = n') : h.SetOf (PySem.strKind P w) a S' n' := by
  have e' : S = S' := funext e
  subst e' en
  exact R
theorem setOf_moved {P : Program} {w : World} {h h' : Heap} {a : Addr} {S : Str → Bool} {n : Nat} (R : h.SetOf (PySem.strKind P w) a S n) (k : ∀ o, h.get? a = some o → h'.get? a = some o) : h'.SetOf (PySem.strKind P w) a S n := by
  obtain ⟨o, es, ep, t, ho, r⟩ := R
  exact ⟨o, es, ep, t, k o ho, r⟩
section
variable {P : Program} {w : World} {A : Around} {E : Value → Shared → Prop} {s : Shared}
theorem set_fill {I : Addr} {fp wr : List Addr} {G : Array GenState → Array GenState → Prop} {n : Nat} {Pv : Nat → Value → Prop} {St : Nat → Shared → Prop} {R : Result → Shared → Prop}
    (W : WalksS P w A.in1 I fp wr G n Pv St) (a : Addr) (out : a ∉ fp) (zs : List Str) (hn : n = zs.length) (few : zs.length + 1 < scanBound) (vals : ∀ i v, Pv i v → ∃ z t, zs[i]? = some z ∧ v = .str z t) (left : Nat) :
    ∀ (i : Nat) (s : Shared), n - i = left → i ≤ n → St i s → s.heap.SetOf (PySem.strKind P w) a (fun k => decide (k ∈ zs.take i)) (unl zs i) →
      (∀ s', Moved (a :: wr) G s s' → s'.heap.SetOf (PySem.strKind P w) a (fun k => decide (k ∈ zs)) (unl zs n) → R (.ok (.ret .none)) s') → codeAny (model P w) A (.builtin "set.update.loop" ⟨[.ref a, .ref I], []⟩) R s := by
  have outw : a ∉ wr := fun h => out (W.sub _ h)
  have more : ∀ b ∈ wr, b ∈ a :: wr := fun b hb => List.mem_cons_of_mem _ hb
  induction left with
  | zero =>
    intro i s hl hi hst hS hR
    obtain rfl : i = n := by omega
    refine codeAny_builtin F.entry_set_update_loop ?_
    rw [Around.under_plainId F.plain_set_update_loop _]
    show wpAny _ A.in1 (pyNext (.ref I) >>= _) _ _ s
    refine wpAny_bind (W.done s _ _ hst fun s' mv => ?_)
    show wpAny _ A.in1 (ret Value.none) _ _ s'
    rw [List.take_of_length_le (show zs.length ≤ i by omega)] at hS
    exact wpAny_pure (hR s' (mv.mono more) (setOf_moved hS fun o e => mv.heap a o outw e))
  | succ left ih =>
    intro i s hl hi hst hS hR
    have lt : i < n := by omega
    refine codeAny_builtin F.entry_set_update_loop ?_
    rw [Around.under_plainId F.plain_set_update_loop _]
    show wpAny _ A.in1 (pyNext (.ref I) >>= _) _ _ s
    refine wpAny_bind (W.item i s _ _ lt hst fun v s' hP hst' mv => ?_)
    obtain ⟨z, t, hz, rfl⟩ := vals i v hP
    have hS' := setOf_moved hS (h' := s'.heap) fun o e => mv.heap a o outw e
    show wpAny _ A.in1 (holding [Value.str z t] (setAdd a (.str z t)) >>= _) _ _ s'
    refine wpAny_bind (wpAny_holding ?_)
    unfold setAdd
    refine wpAny_holding (wpAny_bind ((PySem.strKind P w).pyHash (k := z) (strKind_is _ _ _ _) ?_))
    have small : unl zs i + 1 < scanBound := by have := unl_le zs i; omega
    refine wpAny_setAddHashed_of (knd := PySem.strKind P w) (s := { s' with toks := s'.toks + 1 }) (strKind_is _ _ _ _) rfl hS' small fun h' same hS2 => ?_
    have hS3 : h'.SetOf (PySem.strKind P w) a (fun k => decide (k ∈ zs.take (i + 1))) (unl zs (i + 1)) := by
      refine setOf_as hS2 (fun k => ?_) ?_
      · rw [List.take_add_one, hz]
        simp [List.mem_append]
      · show (if decide (z ∈ zs.take i) = true then unl zs i else unl zs i + 1) = unl zs (i + 1)
        rw [unl, hz]
        simp only [decide_eq_true_eq]
    refine wpAny_pure ⟨plainId_quiet F.plain_set_update_loop _, ih (i + 1) _ (by omega) lt (W.frame _ s' _ _ hst' (Nat.le_succ _) fun b hb o e => ?_) hS3 fun s'' mv2 hS4 => ?_⟩
    · have nb : b ≠ a := fun h => out (h ▸ hb)
      rw [same.2 b nb]; exact e
    · refine hR s'' (Moved.trans W.gtrans ((mv.mono more).then_heap (Nat.le_succ _) fun b o hb e => ?_) mv2) hS4
      have nb : b ≠ a := fun h => hb (h ▸ List.mem_cons_self)
      rw [same.2 b nb]; exact e
/-- the set ahead of its items -/
def emptySet (w : World) : Obj := { cls := .type "set", dict := none, data := .set #[] 0 (.fresh 0 0 (!w.params.followText "set-order")) }
theorem strs_item {us : List Value} {zs : List Str} (h : StrsAre us zs) : ∀ {i : Nat} {v : Value}, us[i]? = some v → ∃ z t, zs[i]? = some z ∧ v = .str z t := by
  induction h with
  | nil => intro i v e; simp at e
  | cons z t r ih =>
    intro i v e
    cases i with
    | zero => simp at e; exact ⟨z, t, rfl, e.symm⟩
    | succ i => simpa using ih (by simpa using e)
theorem new_setOf {h : Heap} {a : Addr} {zs : List Str} (e : h.get? a = some (emptySet w)) : h.SetOf (PySem.strKind P w) a (fun k => decide (k ∈ zs.take 0)) (unl zs 0) :=
  ⟨_, #[], 0, _, e, ⟨rfl, rfl, rfl⟩, rfl, (fun e he => by simp at he), (fun k => by simp), (by decide), (by rfl), rfl⟩
set_option maxHeartbeats 8000000 in
theorem call_set_texts {l : Addr} {items : Array Value} (zs : List Str) {Q : Value → Shared → Prop} (cold : A.handled = none) (hl : s.heap.IsTuple l items) (hit : StrsAre items.toList zs) (few : zs.length + 1 < scanBound)
    (h : ∀ (h' : Heap) (tk : Nat), h'.SetOf (PySem.strKind P w) s.heap.objs.size (fun k => decide (k ∈ zs)) (unl zs zs.length) → (∀ b o, s.heap.get? b = some o → h'.get? b = some o) → Q (.ref s.heap.objs.size) { s with heap := h', toks := tk }) :
    wpAny (model P w) A (call (.type "set") [.ref l]) Q E s := by
  have size : items.size = zs.length := by
    have q := StrsAre.length hit
    rw [Array.length_toList] at q
    exact q
  obtain ⟨c, tl, hmro⟩ := F.called_set.mro
  have hmade := F.called_set.made
  have hsub := F.called_set.sub
  refine wpAny_call (codeAny_of_tree ?_)
  show wpAny _ _ (callAny (.type "set") _) _ _ _
  refine wpAny_pure ⟨Code.quiet_builtin _ (by decide +kernel), codeAny_builtin F.entry_type_call ?_⟩
  rw [Around.under_plain (weight_type_call_type "set" [.ref l] []) rfl]
  have h1 := F.called_set.notType
  have h2 := F.called_set.canCreate
  have hct := F.typeCall_set_1 (.ref l)
  repeat (any_goals (first | assumption | wp_step))
  refine codeAny_mono (code_set_led1 (.ref l) (E := E) (Q₁ := fun obj s₁ => obj = .ref s.heap.objs.size ∧ s₁ = { s with heap := s.heap.push (emptySet w) }) ⟨rfl, rfl⟩) fun r s₁ hr => ?_
  cases r with
  | error e => exact hr
  | ok fl =>
    cases fl with
    | ret obj =>
      obtain ⟨rfl, rfl⟩ := hr
      have hS : (s.heap.push (emptySet w)).get? s.heap.objs.size = some (emptySet w) := Heap.get?_push_size _ rfl
      have hT : Shared.TypeIs { s with heap := s.heap.push (emptySet w) } (.ref s.heap.objs.size) "set" := ⟨_, hS, rfl⟩
      have hli := F.called_set.init.lookup
      have hbi := F.called_set.init.bind (.ref s.heap.objs.size)
      repeat (any_goals (first | assumption | wp_step))
      refine codeAny_mono (codeAny_call_builtin (R := wants (fun r s₂ => r = .none ∧ ∃ h' tk, s₂ = { s with heap := h', toks := tk } ∧ h'.SetOf (PySem.strKind P w) s.heap.objs.size (fun k => decide (k ∈ zs)) (unl zs zs.length) ∧
          (∀ b o, s.heap.get? b = some o → h'.get? b = some o)) E) F.called_set.init.plain F.entry_set_init (check_set_init_1 hT ?_)) fun r₂ s₂ hr₂ => ?_
      · obtain ⟨⟨ocls, odict, odata, oslots⟩, hol, hcl, nl, hdl⟩ := hl
        simp only at hcl hdl
        subst hcl hdl
        have hol' : (s.heap.push (emptySet w)).get? l = some { cls := .type "tuple", dict := odict, data := .seq items nl, slots := oslots } := Heap.get?_push_of_some _ hol
        have hsls := F.sub_tuple_set
        have hslf := F.sub_tuple_frozenset
        have hne : (Value.type "tuple" == Value.type "dict") = false := by decide
        have hl1 : (s.heap.push (emptySet w)).IsTuple l items := ⟨_, hol', rfl, nl, rfl⟩
        unfold Builtin.«set.__init__» noKeywords Builtin.Frozenset.updateFrom
        generalize hPI : pyIter = PI
        wp_walk
        subst hPI
        refine wpAny_pyIter_tuple hl1 ?_
        refine wpAny_bind (wpAny_runValue ?_)
        have lS : l < s.heap.objs.size := Heap.lt_size hol
        have cold3 : A.in1.in1.in1.handled = none := by simp [cold]
        have apart : l ≠ (s.heap.push (emptySet w)).objs.size := by
          rw [Heap.size_push]; exact Nat.ne_of_lt (Nat.lt_succ_of_lt lS)
        have out : s.heap.objs.size ∉ [(s.heap.push (emptySet w)).objs.size, l] := by
          rw [Heap.size_push]; simp only [List.mem_cons, List.mem_singleton, List.not_mem_nil, or_false, not_or]
          exact ⟨Nat.ne_of_lt (Nat.lt_succ_self _), Nat.ne_of_gt lS⟩
        have vals : ∀ (i : Nat) (v : Value), items[i]? = some v → ∃ z t, zs[i]? = some z ∧ v = .str z t := fun i v hv => strs_item hit (by rw [Array.getElem?_toList]; exact hv)
        refine set_fill ((Walks.tuple cold3 _ l apart items).toS) s.heap.objs.size out zs size few vals (items.size - 0) 0 _ (by omega) (Nat.zero_le _) ⟨⟨_, Heap.get?_push_size _ rfl, rfl, rfl⟩, (hl1.push _)⟩ ?hS0 ?hR
        case hS0 => exact new_setOf (Heap.get?_push_of_some _ hS)
        case hR =>
          intro s' mv hS'
          obtain ⟨h', g2, d', tk', os'⟩ := s'
          have eg : g2 = s.gens := mv.gens
          have ed : d' = s.drawn := mv.drawn
          have eo : os' = s.os := mv.os
          subst eg; subst ed; subst eo
          show wpAny _ _ _ _ _ _
          refine wpAny_pure ?_
          show wpAny _ _ (ret Value.none) _ _ _
          rw [size] at hS'
          refine wpAny_pure ⟨rfl, h', tk', rfl, hS', fun b o e => ?_⟩
          have b0 : b < s.heap.objs.size := Heap.lt_size e
          have b1 : b ≠ s.heap.objs.size := Nat.ne_of_lt b0
          have b2 : b ≠ (s.heap.push (emptySet w)).objs.size := by
            rw [Heap.size_push]; exact Nat.ne_of_lt (Nat.lt_succ_of_lt b0)
          exact mv.heap b o (by simp only [List.mem_cons, List.mem_singleton, List.not_mem_nil, or_false, not_or]; exact ⟨b1, b2⟩) (Heap.get?_push_of_some _ (Heap.get?_push_of_some _ e))
      · cases r₂ with
        | error e => exact hr₂
        | ok fl₂ =>
          cases fl₂ with
          | ret r =>
            obtain ⟨rfl, h', tk, rfl, hS', hk'⟩ := hr₂
            repeat (any_goals (first | assumption | wp_step))
            exact h _ _ hS' hk'
          | _ => exact hr₂.elim
    | _ => exact hr.elim
end
/-- len(set(xs)) of texts -/
def strsS : List PyData → Option (List Str)
  | [] => some []
  | .str z :: r => (strsS r).map (z :: ·)
  | _ => none
def gLenSet : PyData → Option PyData
  | .tuple ds => (strsS ds).bind fun zs => if zs.length + 1 < scanBound then some (.int (unl zs zs.length)) else none
  | _ => none
section
variable {X : Cx} {Z : Par} {fa : DE}
theorem strsS_of {K : PySem.W.Frag} {mu : Addr → Prop} {H : Hp} : ∀ {ds : List PyData} {zs : List Str} {xs : List V}, strsS ds = some zs → DtAll K mu H xs ds → xs = zs.map V.str
  | [], _, _, e, .nil => by cases e; rfl
  | d :: ds, zs, _, e, .cons (v := v) h r => by
    unfold strsS at e
    split at e
    · rename_i q; cases q
    · rename_i z r' q
      cases q
      simp only [Option.map_eq_some_iff] at e
      obtain ⟨zs', e1, rfl⟩ := e
      rw [strsS_of e1 r, h.text]
      rfl
    · cases e
theorem dlenset {a : Expr} {p p2 q pos : Pos} (hc : X.calm = true) (hg : Gl X "len") (hm : X.mg "len" = none) (hg2 : Gl X "set") (hm2 : X.mg "set" = none) (ha : PE X a (lft X.K Z fa))
    (na : starEach [a] X.env = (false, eval a X.env) :: starEach [] X.env := by rfl) : PE X (.Call (.Name "len" p) [.Call (.Name "set" p2) [a] [] q] [] pos) (lft X.K Z (dUn gLenSet fa)) := by
  refine ⟨fun pins s σ H Q I h => ?_⟩
  obtain ⟨M, sl, d, sl', rl, hf, k⟩ := h
  obtain ⟨d1, f1, g1⟩ := dUn_some hf
  refine Call_ (ld_blt I hg hm boot_len ?_)
  refine PyProof.Rows.callWith_builtin1 (PyProof.Rows.args_cons ?_ rfl) rfl rfl
  refine Call_ (ld_blt I hg2 hm2 boot_set ?_)
  refine PyProof.Rows.callWith_type1 (PyProof.Rows.args_cons (thn (ha.run pins s σ H (fun v H1 => Kq Z M H M H1 ∧ Rel X.K Z M σ H1 sl' ∧ Dt X.K (Mu Z M) H1 v d1) I ⟨M, sl, d1, sl', rl, f1, fun v H' k1 r1 t1 => ⟨k1, r1, t1⟩⟩) fun v s1 ⟨x, H1, I1, r1, k1, r2, t1⟩ => PyProof.Rows.args_nil ?_) na) na rfl
  unfold gLenSet at g1
  split at g1
  case h_2 => cases g1
  rename_i ds
  simp only [Option.bind_eq_some_iff] at g1
  obtain ⟨zs, e1, e2⟩ := g1
  split at e2
  case isFalse => cases e2
  rename_i few
  cases e2
  obtain ⟨l, xs, rfl, hq, u1⟩ := t1.tuple
  obtain rfl := strsS_of e1 u1
  cases r1
  obtain ⟨its, r, pl, hz⟩ := I1.tuple hq
  refine call_set_texts zs (I1.ok.hd hc) pl (by simpa using strsAre_of r) few fun h' tk hS hk => ?_
  refine PyProof.Rows.args_nil ?_
  obtain ⟨o, es, ep, t, ho, hex, hd, _, _, _, hf', hn⟩ := hS
  have I2 : Inv X pins σ H1 { s1 with heap := h', toks := tk } := I1.kept fun b o e => hk b o e
  have := unl_le zs zs.length
  exact call_len_set ho hex hd hf' (by rw [hn]; unfold scanBound at few; omega) ⟨.int (unl zs zs.length), H1, I2.tok _, ⟨_, by rw [hn]⟩, k _ H1 k1 r2 (.int _)⟩
end
end Dl

/-! ### repr of data -/
namespace Dl
open PySem PySem.Spec PyProof.Rows L2
/-- what is known where a text of a thing is made: no text of a thing is being made, and where the modules' table stands -/
structure CG (X : Cx) : Prop where
  gd : X.A.guards = some []
  un : X.A.units + 100 < cLine
  sys : ∃ o es n, X.base.get? sysModules = some o ∧ o.data = .dict es n

mutual
def realAll : PyData → Bool
  | .list xs | .tuple xs => realAlls xs
  | .dict kvs => realKvs kvs
  | _ => true
def realAlls : List PyData → Bool
  | [] => true
  | x :: xs => realAll x && realAlls xs
def realKvs : List (PyData × PyData) → Bool
  | [] => true
  | (.none, _) :: _ => false
  | (_, v) :: r => realAll v && realKvs r
end
def gRepr : List PyData → Option PyData
  | [d] => if d.showable && realAll d && decide (d.shown.length ≤ sizeLine) && decide (d.depth ≤ 60) then some (.str d.shown) else none
  | _ => none

section
variable {X : Cx} {pins : List (Addr × Obj)} {σ : L2.St} {H : Hp} {s : Shared} {mu : Addr → Prop}
theorem sys_not (I : Inv X pins σ H s) (c : CG X) : H sysModules = none ∧ ∃ o es n, s.heap.get? sysModules = some o ∧ o.data = .dict es n := by
  obtain ⟨o, es, n, h1, h2⟩ := c.sys
  exact ⟨(I.bs _ _ h1).2, o, es, n, (I.bs _ _ h1).1, h2⟩
theorem list_not_sys {a : Addr} {its : Array Value} (I : Inv X pins σ H s) (c : CG X) (p : PlainL s.heap a its) : sysModules ≠ a := fun e => by
  obtain ⟨_, o, es, n, h1, h2⟩ := sys_not I c
  obtain ⟨o', n', q1, _, _, q2⟩ := p
  rw [e] at h1
  rw [h1] at q1
  cases q1
  rw [h2] at q2
  cases q2
mutual
theorem reads_of (I : Inv X pins σ H s) (c : CG X) : ∀ {v : V} {u : Value} {d : PyData}, Dt X.K mu H v d → RelV v u → realAll d = true → ∃ as, Reads s.heap u d as ∧ sysModules ∉ as
  | _, _, _, .non, r, _ => by cases r; exact ⟨[], .none, by simp⟩
  | _, _, _, .bl b, r, _ => by cases r; exact ⟨[], .bool b, by simp⟩
  | _, _, _, .int i, r, _ => by obtain ⟨t, rfl⟩ := r; exact ⟨[], .int i t, by simp⟩
  | _, _, _, .str x, r, _ => by obtain ⟨t, rfl⟩ := r; exact ⟨[], .str x t, by simp⟩
  | _, _, _, .lst h _ t, r, g => by
    cases r
    obtain ⟨its, r, p, _⟩ := I.list (.inl h)
    obtain ⟨as, h1, h2⟩ := readsAll_of I c t r (by simpa [realAll] using g)
    have ns := list_not_sys I c p
    obtain ⟨o, n, q1, q2, _, q3⟩ := p
    exact ⟨_, .list q1 q2 q3 (by simpa using h1), by simp [ns, h2]⟩
  | _, _, _, .scr h t, r, g => by simp [realAll, realKvs] at g
  | _, _, _, .tup h _ t, r, g => by
    cases r
    obtain ⟨its, r, ⟨o, q1, q2, n, q3⟩, _⟩ := I.tuple (.inl h)
    obtain ⟨as, h1, h2⟩ := readsAll_of I c t r (by simpa [realAll] using g)
    exact ⟨_, .tuple q1 q2 q3 (by simpa using h1), h2⟩
  | _, _, _, .tupK h t, r, g => by
    cases r
    obtain ⟨its, r, ⟨o, q1, q2, n, q3⟩, _⟩ := I.tuple (h H)
    obtain ⟨as, h1, h2⟩ := readsAll_of I c t r (by simpa [realAll] using g)
    exact ⟨_, .tuple q1 q2 q3 (by simpa using h1), h2⟩
  | _, _, _, .dct (a := a) h _ t, r, g => by
    cases r
    obtain ⟨_, ns, vs, kv, o, es, ep, q1, q2, q3, _, q4, _⟩ := I.hok _ _ h
    obtain ⟨as, bs, h1, h2, h3, h4⟩ := readsKv_of I c t kv q4 (by simpa [realAll] using g)
    exact ⟨_, .dict q1 q2.1 q3 h1 h2, by
      have no : sysModules ≠ a := fun e => (by rw [← e] at ns; simp at ns)
      simp [h3, h4, no]⟩
theorem readsAll_of (I : Inv X pins σ H s) (c : CG X) : ∀ {vs : List V} {us : List Value} {ds : List PyData}, DtAll X.K mu H vs ds → Vals vs us → realAlls ds = true → ∃ as, ReadsAll s.heap us ds as ∧ sysModules ∉ as
  | _, _, _, .nil, r, _ => by cases r; exact ⟨[], .nil, by simp⟩
  | _, _, _, .cons h t, .cons r1 r2, g => by
    simp only [realAlls, Bool.and_eq_true] at g
    obtain ⟨as, h1, h2⟩ := reads_of I c h r1 g.1
    obtain ⟨bs, h3, h4⟩ := readsAll_of I c t r2 g.2
    exact ⟨as ++ bs, .cons h1 h3, by simp [h2, h4]⟩
theorem readsKv_of (I : Inv X pins σ H s) (c : CG X) : ∀ {kvs : List (Key × V)} {vs : List (Key × Value)} {es : List DictEntry} {ds : List (PyData × PyData)}, DtKv X.K mu H kvs ds → KV kvs vs → Pairs (mixKind X.prog X.w) es vs → realKvs ds = true →
    ∃ as bs, ReadsAll s.heap (es.map (·.key)) (ds.map (·.1)) as ∧ ReadsAll s.heap (es.map (·.val)) (ds.map (·.2)) bs ∧ sysModules ∉ as ∧ sysModules ∉ bs
  | _, _, _, _, .nil, r, p, _ => by cases r; cases p; exact ⟨[], [], .nil, .nil, by simp, by simp⟩
  | _, _, _, _, .cons (k := k) (d := d) (ds := dr) h t, .cons (b := q) r1 r2, .cons p1 p2 p3, g => by
    obtain ⟨k', u⟩ := q
    obtain ⟨e1, r1⟩ := r1
    have e1' : k = k' := e1
    subst e1'
    have g' : realAll d = true ∧ realKvs dr = true := by
      cases k with
      | inl i => simpa [kD, realKvs] using g
      | inr x => simpa [kD, realKvs] using g
    obtain ⟨as, bs, h1, h2, h3, h4⟩ := readsKv_of I c t r2 p3 g'.2
    obtain ⟨cs, h5, h6⟩ := reads_of I c h r1 g'.1
    rw [List.map_cons, List.map_cons, List.map_cons, List.map_cons, p2]
    refine ⟨as, cs ++ bs, ?_, .cons h5 h2, h3, by simp [h6, h4]⟩
    rcases keyIs_shape p1 with ⟨i, t, e3, e4⟩ | ⟨x, t, e3, e4⟩
    · have e3' : k = Sum.inl i := e3
      subst e3'
      rw [e4]
      exact .cons (as := []) (.int i t) h1
    · have e3' : k = Sum.inr x := e3
      subst e3'
      rw [e4]
      exact .cons (as := []) (.str x t) h1
end
end
section
variable {X : Cx}
/-- what repr wants and gives -/
def rRepr (K : PySem.W.Frag) : List V → Hp → VK → Prop := fun xs H Q => ∃ mu d, DtAll K mu H xs [d] ∧ (d.showable && realAll d && decide (d.shown.length ≤ sizeLine) && decide (d.depth ≤ 60)) = true ∧ Q (.str d.shown) H
theorem call_repr (c : CG X) : CallR X (.builtin "repr") (rRepr X.K) := by
  intro pins s σ H xs us Q I r h
  obtain ⟨mu, d, t, g, q⟩ := h
  simp only [Bool.and_eq_true, decide_eq_true_eq] at g
  obtain ⟨⟨⟨g1, g2⟩, g3⟩, g4⟩ := g
  cases t with
  | cons h t =>
  cases t
  cases r with
  | cons r1 r2 =>
  cases r2
  obtain ⟨as, h1, h2⟩ := reads_of I c h r1 g2
  have out : ∀ {s' : Shared} {t : Tok}, Inv X pins σ H s' → EP X pins σ Q (.str d.shown t) s' := fun {s' t} I' => ⟨.str d.shown, H, I', ⟨t, rfl⟩, q⟩
  cases h1 with
  | none => exact P.repr_of_none (out (I.tok _))
  | bool b => exact P.repr_of_bool (by have z := out (t := s.toks) (I.tok (s.toks + 1)); simpa [PyData.shown] using z)
  | int i t => exact P.repr_of_int (by simpa [PyData.showable] using g1) (by have z := out (t := s.toks) (I.tok (s.toks + 1)); simpa [PyData.shown] using z)
  | str x t => exact P.repr_of_str (by have z := out (t := s.toks) (I.tok (s.toks + 1)); simpa [PyData.shown] using z) (by simpa [PyData.shown] using g3)
  | list a1 a2 a3 a4 => exact repr_of_reads' (.list a1 a2 a3 a4) g1 (fun _ => h2) c.gd (by have := c.un; omega) (fun _ _ e => e) (fun h' u tk hk => out (I.kept hk)) g3
  | tuple a1 a2 a3 a4 => exact repr_of_reads' (.tuple a1 a2 a3 a4) g1 (fun _ => h2) c.gd (by have := c.un; omega) (fun _ _ e => e) (fun h' u tk hk => out (I.kept hk)) g3
  | dict a1 a2 a3 a4 a5 => exact repr_of_reads' (.dict a1 a2 a3 a4 a5) g1 (fun _ => h2) c.gd (by have := c.un; omega) (fun _ _ e => e) (fun h' u tk hk => out (I.kept hk)) g3
theorem ok_repr {K : PySem.W.Frag} : CallOk K (rRepr K) gRepr := fun mu H xs ds d Q _ t e k => by
  unfold gRepr at e
  split at e
  · split at e
    case isFalse => cases e
    rename_i hg
    cases e
    exact ⟨mu, _, t, hg, k _ H (fun _ _ z => z) (.str _)⟩
  · cases e
end
end Dl

/-! ### the law's own call -/
namespace Dl
open PySem PySem.Spec PyProof.Rows L2
section
variable {P : Program} {w : World} {K : PySem.W.Frag} {mg : Str → Option Value} {base : Heap}
/-- a body of data run at the values handed in -/
theorem lf_start {N : List Str} {n : Nat} {b : DS} {vs : List V} {H : Hp} {Q : VK} {E : XK} (h : spP K (fnP N n b) vs H Q E) : ∃ Z : Par, lfS K Z b { nx := fun _ H' => Q .non H', rt := Q } (L2.start N vs) H := by
  obtain ⟨mu, ds, d, h1, h2, h3, h4⟩ := h
  unfold fnP at h3
  split at h3
  case isFalse => cases h3
  refine ⟨⟨H, none, mu⟩, [], startS N ds, ?_⟩
  have back : ∀ a, Mu ⟨H, none, mu⟩ [] a → mu a := fun a q => q.elim id fun q => q.elim (fun z => by cases z) fun z => by cases z
  have r : Rel K ⟨H, none, mu⟩ [] (L2.start N vs) H (startS N ds) := by
    refine ⟨fun _ _ e _ => e, fun _ ha => (by cases ha), h1, fun _ ha => (by cases ha), ?_⟩
    unfold startS L2.start
    rw [h2.len]
    exact slAll_start _ (h2.mono fun a o e n => ⟨e, fun z => n (back a z)⟩)
  have keep : ∀ {M : List Addr} {σ : L2.St} {H1 : Hp} {s1 : Sl}, Rel K ⟨H, none, mu⟩ M σ H1 s1 → ∀ a o, H a = some o → H1 a = some o := fun r1 a o e => r1.base a o e fun z => by cases z
  unfold outP at h3
  split at h3
  · rename_i d1 s1 hq
    cases h3
    exact ⟨_, r, hq, fun M σ H1 v k1 r1 t1 => h4 v H1 (keep r1) (t1.mono fun a o e n => ⟨e, fun z => n (.inl z)⟩)⟩
  · rename_i s1 hq
    cases h3
    exact ⟨_, r, hq, fun M σ H1 k1 r1 => h4 _ H1 (keep r1) .non⟩
  · cases h3
/-- a def of data, called where all around is known -/
theorem run_here {x p : Str} {st : Stmt} {f : Addr} {fd : FuncData} {N : List Str} {k : Nat} {b : DS} {A : Around} {outer : List Env} {s : Shared} {H : Hp} {u : Value} {v : V} {Q : VK}
    (F : Fun K x x st f fd) (S : FnScope N [p] (defScope st)) (room : Room (k + 1) A) (e0 : Env0 P w K mg base A outer s H) (bt : BindsTo s fd ⟨[u], []⟩ [(p, u)]) (rv : RelV v u)
    (hb : ∀ (cdv : Value) (Z : Par), Room k (A.deeper (envOfC x (defScope st) s.heap.objs.size f cdv)) → PSs (cxOf CX0 P w K mg base N x (defScope st) f cdv A outer s H E0).nox (defBody st) (lfS K Z b)) (q : spP K (fnP N 1 b) [v] H Q E0) :
    codeAny (model P w) A (.call (.ref f) ⟨[u], []⟩) (CR CX0 outer P w H s Q E0) s := by
  obtain ⟨⟨oc, od, kV, doc, pm, an, cdv, ct, osl, e1, lk, hcd⟩, kp⟩ := F
  subst e1
  have keeps : ∀ b o, base.get? b = some o → s.heap.get? b = some o := fun b o e => (e0.bs b o e).1
  have In := e0.mod.kin.keeps keeps
  have slots : ∀ y ∈ [(p, u)], (defScope st).names.lookup y.1 = some .local ∨ ((defScope st).names.lookup y.1 = some .cell ∧ ((cellsFrom (s.heap.objs.size + 1) (defScope st).names []).lookup y.1).isSome = true) := fun y hy => by
    obtain rfl := List.mem_singleton.mp hy
    exact (S.par p (List.mem_singleton.mpr rfl)).imp id fun z => ⟨z, PySem.W.cellsFrom_some _ _ _ (.inl z)⟩
  refine codeAny_call_function room.depth (In _ _ lk) rfl S.co S.gen rfl (PySem.W.codeRec_of In hcd) (bt _ _ _ _ (wpAny_newFunctionEnv_cells S.kind slots fun env he t0 io => ?_))
  cases he
  refine ⟨(e0.mod.nolimit.keeps keeps).keeps io.toInCall.keep, codeAny_func ?_⟩
  obtain ⟨Z, ready⟩ := lf_start q
  have begun : Inv (cxOf CX0 P w K mg base N x (defScope st) f cdv A outer s H E0) [] (L2.start N [v]) H t0 := inv_start S room.hd e0 rfl (.cons rv .nil) io
  refine wpAny_mono ((hb cdv Z (room.deeper _)).nox.run [] t0 _ H _ begun ready) (fun fl t1 done => ?_) fun _ _ z => z
  have close : ∀ {τ : L2.St} {H1 : Hp} {x1 : V} {y1 : Value}, Inv (cxOf CX0 P w K mg base N x (defScope st) f cdv A outer s H E0) [] τ H1 t1 → RelV x1 y1 → Q x1 H1 → CE outer P w H s Q y1 t1 := fun {_ H1 x1 _} J a c => ⟨x1, H1, J.os, J.bare, J.base, J.hok, a, c⟩
  match fl, done with
  | .ret _, ⟨_, _, _, J, a, c⟩ => exact close J a c
  | .next, ⟨_, _, J, c⟩ => exact close (x1 := V.non) J rfl c
  | .brk, ⟨_, _, _, z⟩ => exact z.elim
  | .cont, ⟨_, _, _, z⟩ => exact z.elim
end
end Dl
namespace Dl
open PySem PySem.Spec PyProof.Rows L2
section
variable {P : Program} {w : World} {K : PySem.W.Frag} {mg mb : Str → Option Value}
/-- the script as the law finds it: the caller's own list, or one of the module's -/
theorem script_in {h : Heap} {a : Addr} {vs : List Value} {ns : List Int} (KX : K.In h) (ha : h.get? a = some { cls := .type "list", data := .seq vs.toArray }) (hi : IntsAre vs ns) (few : ns.length ≤ sizeLine) :
    ∃ H : Hp, HOk P w H h ∧ (∀ b u, H b = some u → b = a ∧ K.lookup a = none ∧ ∃ o u', u = .frz o u') ∧ ((Rd H a (.lst (ns.map V.int))) ∨ ∀ H', SqL K H' a (ns.map V.int)) := by
  have rv := vals_ints hi
  have len : vs.length = ns.length := hi.length
  cases look : K.lookup a with
  | some o =>
    have same := KX a o look
    rw [ha] at same
    cases same
    refine ⟨fun _ => none, fun _ _ z => (by cases z), fun _ _ z => (by cases z), .inr fun H' => .inr ⟨_, vs.toArray, 0, look, rfl, rfl, rfl, by rw [List.size_toArray, len]; exact few, by simpa using rv⟩⟩
  | none =>
    let H : Hp := fun b => if b = a then some (.frz { cls := .type "list", data := .seq vs.toArray } (.lst (ns.map V.int))) else none
    have at_a : H a = some (.frz { cls := .type "list", data := .seq vs.toArray } (.lst (ns.map V.int))) := if_pos rfl
    have only : ∀ b u, H b = some u → b = a := fun b u z => by
      by_cases q : b = a
      · exact q
      · have n : H b = none := if_neg q
        rw [n] at z; cases z
    refine ⟨H, fun b u z => ?_, fun b u z => ⟨only b u z, rfl, ?_⟩, .inl (.inr ⟨_, at_a⟩)⟩
    · obtain rfl := only b u z
      rw [at_a] at z
      cases z
      exact ⟨ha, by rw [List.length_map]; exact few, vs, 0, rv, ha⟩
    · obtain rfl := only b u z
      rw [at_a] at z
      cases z
      exact ⟨_, _, rfl⟩
/-- the law's def of data, called at the script, where it gives True -/
theorem law_here {x p : Str} {st : Stmt} {fa a : Addr} {fd : FuncData} {N : List Str} {k : Nat} {b : DS} {s₁ : Shared} {vs : List Value} {ns : List Int}
    (KX : K.In s₁.heap) (hns : s₁.heap.Ns mainGlobals mg) (hbl : s₁.heap.Ns builtinsNs mb) (hbb : ∀ y : Str, y ≠ "__name__" → mb y = bootBuiltins y) (hlim : s₁.heap.NoLimit) (hmo : ∃ mm, s₁.heap.Ns sysModules mm) (hg : s₁.gens = #[])
    (ha : s₁.heap.get? a = some { cls := .type "list", data := .seq vs.toArray }) (hi : IntsAre vs ns) (few : ns.length ≤ sizeLine) (room : Room (k + 1) callerA) (F : Fun K x x st fa fd) (S : FnScope N [p] (defScope st)) (bt : ∀ (s : Shared) (u : Value), BindsTo s fd ⟨[u], []⟩ [(p, u)])
    (body : ∀ (base : Heap) (cdv : Value) (s : Shared) (H : Hp) (Z : Par), Mod K mg base → Room k (callerA.deeper (envOfC x (defScope st) s.heap.objs.size fa cdv)) → CG (cxOf CX0 P w K mg base N x (defScope st) fa cdv callerA [] s H E0).nox →
      PSs (cxOf CX0 P w K mg base N x (defScope st) fa cdv callerA [] s H E0).nox (defBody st) (lfS K Z b))
    (true_ : fnP N 1 b [.dict [(.none, .list (ns.map .int))]] = some (.bool true)) :
    codeAny (model P w) callerA (.call (.ref fa) ⟨[.ref a], []⟩) (fun r s' => r = .ok (.ret (.bool true)) ∧ OldK s₁.heap s'.heap ∧ s'.os = s₁.os ∧ AllBare s'.gens) s₁ := by
  obtain ⟨H, hok, hH, here⟩ := script_in (P := P) (w := w) KX ha hi few
  have dict_free : ∀ {c : Addr} {o : Obj} {es : Array DictEntry} {n : Nat}, s₁.heap.get? c = some o → o.data = .dict es n → H c = none := fun {c o es n} e d => by
    cases z : H c with
    | none => rfl
    | some u =>
      obtain ⟨rfl, _⟩ := hH c u z
      rw [ha] at e
      cases e
      exact absurd (show Data.seq vs.toArray 0 = Data.dict es n from d) (by simp)
  have ns_in : ∀ {c : Addr} {m : Str → Option Value}, s₁.heap.Ns c m → (hidT s₁.heap H).Ns c m := fun ⟨o, es, n, e, d, r⟩ => ⟨o, es, n, hidT_get e (dict_free e d), d, r⟩
  have mod : Mod K mg (hidT s₁.heap H) := {
    kin := fun c o e => hidT_get (KX c o e) (by
      cases z : H c with
      | none => rfl
      | some u =>
        obtain ⟨rfl, q, _⟩ := hH c u z
        rw [q] at e; cases e)
    glob := ns_in hns
    blt := ⟨mb, ns_in hbl, hbb⟩
    nolimit := let ⟨mc, q1, q2⟩ := hlim; ⟨mc, ns_in q1, q2⟩ }
  have e0 : Env0 P w K mg (hidT s₁.heap H) callerA [] s₁ H := ⟨rfl, mod, fun _ _ e => of_hidT e, by rw [hidT_size]; exact Nat.le_refl _, trivial, fun c hc => (by cases hc), hok, .of_eq hg⟩
  have sys : ∃ o es n, (hidT s₁.heap H).get? sysModules = some o ∧ o.data = .dict es n := by
    obtain ⟨mm, o, es, n, e, d, _⟩ := hmo
    exact ⟨o, es, n, hidT_get e (dict_free e d), d⟩
  have t : Dt K (fun _ => False) H (.ref a) (.dict [(.none, .list (ns.map .int))]) := .scr (here.imp (fun z => ⟨z, fun z => z⟩) id) (dtAll_ints ns)
  refine codeAny_mono (run_here (v := .ref a) (Q := fun v _ => v = .bl true) F S room e0 (bt s₁ (.ref a)) rfl (fun cdv Z r => body _ cdv s₁ H Z mod r ⟨rfl, by show 4 + 3 + 100 < 9900; omega, sys⟩)
    ⟨fun _ => False, _, _, fun _ z => z.elim, .cons t .nil, true_, fun v H' _ tv => tv.bool⟩) fun r s' done => ?_
  match r, done with
  | .ok (.ret u), ⟨v, H', os, bare, un, ok', rv, q⟩ =>
    subst q
    obtain rfl : u = .bool true := rv
    refine ⟨rfl, OldK.of_keep fun c o e => ?_, os, bare⟩
    cases z : H c with
    | none => exact un.keep c o e z (by simp [frs]) (by simp)
    | some u =>
      obtain ⟨rfl, _, o', u', rfl⟩ := hH c u z
      have stay := (ok' c _ (un.frzs c o' u' z)).1
      have was := (hok c _ z).1
      rw [was] at e
      cases e
      exact stay
  | .ok .next, z => exact z.elim
  | .ok .brk, z => exact z.elim
  | .ok .cont, z => exact z.elim
  | .error e, z => exact (show False from z).elim
end
end Dl

/-! ### a law's head: what the top has written, by names -/
namespace Dl
open PySem PySem.Spec PyProof.Rows L2
mutual
/-- the value u of the module reads as the tree d -/
def rdB (K : PySem.W.Frag) : PyData → Value → Bool
  | .none, .none => true
  | .bool b, .bool c => decide (b = c)
  | .int i, .int j _ => decide (i = j)
  | .str x, .str y _ => decide (x = y)
  | .tuple ds, .ref a => match K.lookup a with
    | some ⟨.type t, _, .seq its _, _⟩ => decide (t = "tuple") && (decide (its.size ≤ sizeLine) && rdBs K ds its.toList)
    | _ => false
  | _, _ => false
def rdBs (K : PySem.W.Frag) : List PyData → List Value → Bool
  | [], [] => true
  | d :: ds, u :: us => rdB K d u && rdBs K ds us
  | _, _ => false
end
mutual
theorem rdB_ok {K : PySem.W.Frag} : ∀ {d : PyData} {u : Value}, rdB K d u = true → ∃ v, RelV v u ∧ ∀ mu H, Dt K mu H v d
  | .none, u, h => by
    cases u <;> first | exact ⟨.non, rfl, fun _ _ => .non⟩ | (simp [rdB] at h)
  | .bool b, u, h => by
    cases u <;> first | (have e : b = _ := of_decide_eq_true h; subst e; exact ⟨.bl _, rfl, fun _ _ => .bl _⟩) | (simp [rdB] at h)
  | .int i, u, h => by
    cases u <;> first | (have e : i = _ := of_decide_eq_true h; subst e; exact ⟨.int _, ⟨_, rfl⟩, fun _ _ => .int _⟩) | (simp [rdB] at h)
  | .str x, u, h => by
    cases u <;> first | (have e : x = _ := of_decide_eq_true h; subst e; exact ⟨.str _, ⟨_, rfl⟩, fun _ _ => .str _⟩) | (simp [rdB] at h)
  | .tuple ds, u, h => by
    cases u with
    | ref a =>
      unfold rdB at h
      split at h
      · rename_i t od its n sl look
        simp only [Bool.and_eq_true, decide_eq_true_eq] at h
        obtain ⟨e, few, h⟩ := h
        subst e
        obtain ⟨vs, r, t⟩ := rdBs_ok h
        exact ⟨.ref a, rfl, fun mu H => .tupK (fun H' => .inr ⟨_, its, n, look, rfl, rfl, few, r⟩) (t mu H)⟩
      · cases h
    | _ => simp [rdB] at h
  | .list ds, u, h => by cases u <;> simp [rdB] at h
  | .dict ds, u, h => by cases u <;> simp [rdB] at h
theorem rdBs_ok {K : PySem.W.Frag} : ∀ {ds : List PyData} {us : List Value}, rdBs K ds us = true → ∃ vs, Vals vs us ∧ ∀ mu H, DtAll K mu H vs ds
  | [], us, h => by
    cases us with
    | nil => exact ⟨[], .nil, fun _ _ => .nil⟩
    | cons => simp [rdBs] at h
  | d :: ds, us, h => by
    cases us with
    | nil => simp [rdBs] at h
    | cons u us =>
      simp only [rdBs, Bool.and_eq_true] at h
      obtain ⟨v, r1, t1⟩ := rdB_ok h.1
      obtain ⟨vs, r2, t2⟩ := rdBs_ok h.2
      exact ⟨v :: vs, .cons r1 r2, fun mu H => .cons (t1 mu H) (t2 mu H)⟩
end
def gcB (K : PySem.W.Frag) (c : Str × PyData) : Bool := match PySem.W.nsIn K mainGlobals c.1 with
  | some (some u) => rdB K c.2 u
  | _ => false
theorem gc_ok {K : PySem.W.Frag} {h : Heap} {mg : Str → Option Value} (X : K.In h) (G : h.Ns mainGlobals mg) {x : Str} {d : PyData} (c : gcB K (x, d) = true) : GC K mg x d := by
  unfold gcB at c
  split at c
  · rename_i u e
    obtain ⟨v, r, t⟩ := rdB_ok c
    exact ⟨u, v, PySem.W.mg_of X G e, r, t⟩
  · cases c
/-! ### the head's facts: built-ins' names free, defs, constants -/
def dOf (x : Str) (st : Stmt) : He.DefD := ⟨(x, none), x, x, defArgs st, defBody st, defScope st, [], []⟩
def obsM (n : Nat) (fa : List He.Fa) (fn : List He.DefD) (cs : List (Str × PyData)) (g : Addr → Option Obj) : Bool × He.AlD :=
  (cs.all (gcB (He.frG g (He.asD g n))), He.obsDG n fa fn g)
def hookM (n : Nat) (fa : List He.Fa) (fn : List He.DefD) (cs : List (Str × PyData)) : PySem.W.Hook where
  α := Bool × He.AlD
  obs := fun s => obsM n fa fn cs s.heap.get?
  val := fun _ => (true, He.valD fn)
  says := fun _ h => ∃ K : PySem.W.Frag, K.In h ∧ He.SaysD fa fn K ∧ cs.all (gcB K) = true
  of := fun _ _ e => ⟨_, He.frG_in, congrArg Prod.snd e, congrArg Prod.fst e⟩
  keeps := fun _ _ _ ⟨K, X, c⟩ k => ⟨K, PySem.W.Frag.In.keeps X k, c⟩
theorem obsM_eq {n : Nat} {fa : List He.Fa} {fn : List He.DefD} {cs : List (Str × PyData)} {g : Addr → Option Obj} {s : Shared} (h : ∀ a, g a = s.heap.get? a) : obsM n fa fn cs g = (hookM n fa fn cs).obs s := by
  obtain rfl : g = s.heap.get? := funext h
  rfl
section
variable {K : PySem.W.Frag} {h : Heap} {mg : Str → Option Value} {fa : List He.Fa} {fn : List He.DefD} {cs : List (Str × PyData)}
theorem const_of (X : K.In h) (G : h.Ns mainGlobals mg) (c : cs.all (gcB K) = true) (i : Nat) {x : Str} {d : PyData} (at_ : cs[i]? = some (x, d) := by rfl) : GC K mg x d :=
  gc_ok X G (List.all_eq_true.mp c _ (List.mem_of_getElem? at_))
theorem free_of (X : K.In h) (G : h.Ns mainGlobals mg) (c : He.SaysD fa fn K) (i : Nat) {x : Str} (at_ : fa[i]? = some (.free x) := by rfl) : mg x = none := He.free_ok X G (c.fact i at_)
theorem std_of (X : K.In h) (G : h.Ns mainGlobals mg) (c : He.SaysD fa fn K) (i j : Nat) {x : Str} {st : Stmt} {ps : List Str} (at_ : fn[i]? = some (dOf x st)) (gl : fa[j]? = some (.glo x))
    (bind : ∀ (kV doc pm : Value) (an : Option Addr) (cdv ct : Value) (us : List Value), us.length = ps.length → bindArgs (PySem.W.fnOf x x (defArgs st) (defBody st) (defScope st) .none kV doc pm an cdv ct) ⟨us, []⟩ = pure (ps.zip us)) : Std K mg x st ps := by
  obtain ⟨fd, F⟩ := c.def_ i at_
  have F' : Fun K x x st (He.ga K x) fd := He5.fun_of F
  exact ⟨_, fd, F', He.glo_ok X G (c.fact j gl), F'.binds bind⟩
end
/-- the law walked: what is asked of the program is that its meaning at each script is True -/
theorem walk_data {l : PySem.W.OpenLaw} {n k : Nat} {q : Program} {loose : List Str} {XP : (Str → Option Value) → Heap → Prop} {d : DefRec} {fa : List He.Fa} {fn : List He.DefD} {cs : List (Str × PyData)} {m : Nat} {x p : Str} {st : Stmt} {N : List Str} {b : DS}
    (most : l.most = some n) (few : n ≤ sizeLine) (hdf : d.params.defaults = []) (name : d.name = x) (alone : importsNone q = true) (room : Room (k + 1) callerA) (S : FnScope N [p] (defScope st))
    (F : ∀ (w : World) (mg : Str → Option Value) (h : Heap) (K : PySem.W.Frag), K.In h → h.Ns mainGlobals mg → He.SaysD fa fn K → cs.all (gcB K) = true → ∃ (f : Addr) (fd : FuncData), mg x = some (.ref f) ∧ Fun K x x st f fd ∧ (∀ (s : Shared) (u : Value), BindsTo s fd ⟨[u], []⟩ [(p, u)]) ∧
      ∀ (base : Heap) (cdv : Value) (s : Shared) (H : Hp) (Z : Par), Mod K mg base → Room k (callerA.deeper (envOfC x (defScope st) s.heap.objs.size f cdv)) → CG (cxOf CX0 l.prog w K mg base N x (defScope st) f cdv callerA [] s H E0).nox →
        PSs (cxOf CX0 l.prog w K mg base N x (defScope st) f cdv callerA [] s H E0).nox (defBody st) (lfS K Z b))
    (T : ∀ ns : List Int, ns.length ≤ n → fnP N 1 b [.dict [(.none, .list (ns.map .int))]] = some (.bool true)) :
    PySem.W.WalkO q loose XP (hookM m fa fn cs).says l.row.toRowW d [] (fun f vs => PySem.call f vs) := by
  refine Att.attach_call most hdf fun w s₀ s₁ mg mb f o pm cd doc a vs ns G Y _ _ _ hmg hobj hints hlen hg => ?_
  obtain ⟨K, X, c1, c2⟩ := Y
  obtain ⟨f', fd, e, Fn, bt, body⟩ := F w mg _ K X G.T.g c1 c2
  rw [name] at hmg
  cases e.symm.trans hmg
  obtain ⟨mm, sees, _⟩ := (G.T.seer alone).mods
  exact law_here X G.T.g G.T.b G.T.builtins G.T.nolimit ⟨mm, sees⟩ hg hobj hints (Nat.le_trans hlen few) room Fn S bt body (T ns hlen)
end Dl

/-! ### what a meaning gives: rules from the outside in -/
namespace Dl
open PySem PySem.Spec PyProof.Rows L2
structure Gd {α : Type} (o : Option α) (Q : α → Prop) : Prop where
  ex : ∃ a, o = some a ∧ Q a
structure Ge {α : Type} (o : Option (α × Sl)) (Q : α → Sl → Prop) : Prop where
  ex : ∃ a s, o = some (a, s) ∧ Q a s
structure Gs (o : Option Fl) (N : Sl → Prop) (R : PyData → Sl → Prop) : Prop where
  ex : (∃ s, o = some (.nx s) ∧ N s) ∨ ∃ d s, o = some (.rt d s) ∧ R d s
section
variable {α β : Type} {Q : PyData → Sl → Prop} {QA : List PyData → Sl → Prop} {QT : Bool → Sl → Prop} {N : Sl → Prop} {R : PyData → Sl → Prop} {s : Sl} {i j : Nat} {d : PyData} {fa fb fc : DE} {ga gb : DA} {ff : DF} {t t' : DT} {f g : DS} {D : PyData → Prop}
theorem gd {o : Option α} {a : α} {q : α → Prop} (e : o = some a) (h : q a) : Gd o q := ⟨a, e, h⟩
theorem gd_mono {o : Option α} {q r : α → Prop} (h : Gd o q) (k : ∀ a, q a → r a) : Gd o r := by
  obtain ⟨a, e, h⟩ := h
  exact ⟨a, e, k a h⟩
theorem ge_mono {o : Option (α × Sl)} {q r : α → Sl → Prop} (h : Ge o q) (k : ∀ a s, q a s → r a s) : Ge o r := by
  obtain ⟨a, s, e, h⟩ := h
  exact ⟨a, s, e, k a s h⟩
theorem gs_mono {o : Option Fl} {N' : Sl → Prop} {R' : PyData → Sl → Prop} (h : Gs o N R) (k : ∀ s, N s → N' s) (l : ∀ d s, R d s → R' d s) : Gs o N' R' := by
  obtain ⟨⟨s, e, h⟩ | ⟨d, s, e, h⟩⟩ := h
  · exact ⟨.inl ⟨s, e, k s h⟩⟩
  · exact ⟨.inr ⟨d, s, e, l d s h⟩⟩
theorem e_var (h : s[i]? = some (.dat d)) (k : Q d s) : Ge (dVar i s) Q := ⟨d, s, by unfold dVar; rw [h], k⟩
theorem e_c (k : Q d s) : Ge (dC d s) Q := ⟨d, s, rfl, k⟩
theorem e_op {g : PyData → PyData → Option PyData} (h : Ge (fa s) fun a s1 => Ge (fb s1) fun b s2 => Gd (g a b) fun d => Q d s2) : Ge (dOp g fa fb s) Q := by
  obtain ⟨a, s1, e1, b, s2, e2, d, e3, k⟩ := h
  exact ⟨d, s2, by unfold dOp; rw [e1, Option.bind_some, e2, Option.bind_some, e3]; rfl, k⟩
theorem e_un {g : PyData → Option PyData} (h : Ge (fa s) fun a s1 => Gd (g a) fun d => Q d s1) : Ge (dUn g fa s) Q := by
  obtain ⟨a, s1, e1, d, e3, k⟩ := h
  exact ⟨d, s1, by unfold dUn; rw [e1, Option.bind_some, e3]; rfl, k⟩
theorem e_chain {g g' : PyData → PyData → Option PyData} (h : Ge (fa s) fun a s1 => Ge (fb s1) fun b s2 => Gd (g a b) fun c => (c = .bool true ∧ Ge (fc s2) fun w s3 => Gd (g' b w) fun d => Q d s3) ∨ (c = .bool false ∧ Q (.bool false) s2)) : Ge (dChain g g' fa fb fc s) Q := by
  obtain ⟨a, s1, e1, b, s2, e2, c, e3, ⟨rfl, w, s3, e4, d, e5, k⟩ | ⟨rfl, k⟩⟩ := h
  · exact ⟨d, s3, by unfold dChain; rw [e1, Option.bind_some, e2, Option.bind_some, e3, Option.bind_some]; simp only [e4, Option.bind_some, e5, Option.map_some], k⟩
  · exact ⟨_, s2, by unfold dChain; rw [e1, Option.bind_some, e2, Option.bind_some, e3, Option.bind_some], k⟩
theorem e_l (h : Ge (ff s) fun ds s1 => Q (.list ds) s1) : Ge (dL ff s) Q := by
  obtain ⟨ds, s1, e, k⟩ := h
  exact ⟨_, s1, by unfold dL; rw [e]; rfl, k⟩
theorem e_b {g : List PyData → Option PyData} (h : Ge (ga s) fun ds s1 => Gd (g ds) fun d => Q d s1) : Ge (dB g ga s) Q := by
  obtain ⟨ds, s1, e, d, e2, k⟩ := h
  exact ⟨d, s1, by unfold dB; rw [e, Option.bind_some, e2]; rfl, k⟩
theorem e_tup (h : Ge (ga s) fun ds s1 => ds.length ≤ sizeLine ∧ Q (.tuple ds) s1) : Ge (dTup ga s) Q := by
  obtain ⟨ds, s1, e, l, k⟩ := h
  exact ⟨_, s1, by unfold dTup; rw [e, Option.bind_some, if_pos l], k⟩
theorem e_call {m : List PyData → Option PyData} (h : Ge (ga s) fun ds s1 => Gd (m ds) fun d => Q d s1) : Ge (dCall m ga s) Q := by
  obtain ⟨ds, s1, e, d, e2, k⟩ := h
  exact ⟨d, s1, by unfold dCall; rw [e, Option.bind_some, e2]; rfl, k⟩
theorem e_callM {m : List PyData → List PyData → Option (PyData × List PyData)} {p0 : List PyData} (c : contents s i = some p0) (h : Ge (ga s) fun ds s1 => ∃ pd, contents s1 i = some pd ∧ Gd (m pd ds) fun q => Q q.1 (setC s1 i q.2)) : Ge (dCallM m i ga s) Q := by
  obtain ⟨ds, s1, e, pd, e2, q, e3, k⟩ := h
  exact ⟨_, _, by unfold dCallM; rw [c, Option.bind_some, e, Option.bind_some, e2, Option.bind_some, e3]; rfl, k⟩
theorem e_ixc {p0 : List PyData} (c : contents s i = some p0) (h : Ge (fa s) fun k s1 => ∃ (n : Int) (ds : List PyData), k = .int n ∧ contents s1 i = some ds ∧ Gd (atI ds n) fun d => Q d s1) : Ge (dIxC i fa s) Q := by
  obtain ⟨k, s1, e, n, ds, rfl, e2, d, e3, q⟩ := h
  exact ⟨d, s1, by unfold dIxC; rw [c, Option.bind_some, e, Option.bind_some, e2, Option.bind_some]; simp only [e3, Option.map_some], q⟩
theorem e_and (h : Ge (fa s) fun a s1 => ∃ b, a = .bool b ∧ ((b = true ∧ Ge (fb s1) Q) ∨ (b = false ∧ Q (.bool false) s1))) : Ge (dAnd fa fb s) Q := by
  obtain ⟨a, s1, e, b, rfl, ⟨rfl, d, s2, e2, k⟩ | ⟨rfl, k⟩⟩ := h
  · exact ⟨d, s2, by unfold dAnd dTst; rw [e]; simp only [Option.bind_some, if_true, e2], k⟩
  · exact ⟨_, s1, by unfold dAnd dTst; rw [e]; simp, k⟩
theorem e_or (h : Ge (fa s) fun a s1 => ∃ b, a = .bool b ∧ ((b = true ∧ Q (.bool true) s1) ∨ (b = false ∧ Ge (fb s1) Q))) : Ge (dOr fa fb s) Q := by
  obtain ⟨a, s1, e, b, rfl, ⟨rfl, k⟩ | ⟨rfl, d, s2, e2, k⟩⟩ := h
  · exact ⟨_, s1, by unfold dOr dTst; rw [e]; simp, k⟩
  · exact ⟨d, s2, by unfold dOr dTst; rw [e]; simp [e2], k⟩
theorem e_not (h : Ge (fa s) fun a s1 => ∃ b, a = .bool b ∧ Q (.bool (!b)) s1) : Ge (dNot fa s) Q := by
  obtain ⟨a, s1, e, b, rfl, k⟩ := h
  exact ⟨_, s1, by unfold dNot dTst; rw [e]; rfl, k⟩
theorem e_if (h : Ge (t s) fun b s1 => (b = true ∧ Ge (fa s1) Q) ∨ (b = false ∧ Ge (fb s1) Q)) : Ge (dIf t fa fb s) Q := by
  obtain ⟨b, s1, e, ⟨rfl, d, s2, e2, k⟩ | ⟨rfl, d, s2, e2, k⟩⟩ := h
  · exact ⟨d, s2, by unfold dIf; rw [e]; simp [e2], k⟩
  · exact ⟨d, s2, by unfold dIf; rw [e]; simp [e2], k⟩
theorem e_sl {lo hi : DO} (h : Ge (fa s) fun a s1 => Ge (lo s1) fun l s2 => Ge (hi s2) fun r s3 => Gd (gSl a l r) fun d => Q d s3) : Ge (dSl fa lo hi s) Q := by
  obtain ⟨a, s1, e1, l, s2, e2, r, s3, e3, d, e4, k⟩ := h
  exact ⟨d, s3, by unfold dSl; rw [e1, Option.bind_some, e2, Option.bind_some, e3, Option.bind_some, e4]; rfl, k⟩
theorem o_n {q : Option Int → Sl → Prop} (k : q none s) : Ge (oN s) q := ⟨none, s, rfl, k⟩
theorem o_s {q : Option Int → Sl → Prop} (h : Ge (fa s) fun a s1 => ∃ n : Int, a = .int n ∧ q (some n) s1) : Ge (oS fa s) q := by
  obtain ⟨a, s1, e, n, rfl, k⟩ := h
  exact ⟨some n, s1, by unfold oS; rw [e]; rfl, k⟩
theorem a_nil (k : QA [] s) : Ge (aNil s) QA := ⟨[], s, rfl, k⟩
theorem a_cons (h : Ge (fa s) fun a s1 => Ge (ga s1) fun r s2 => QA (a :: r) s2) : Ge (aCons fa ga s) QA := by
  obtain ⟨a, s1, e1, r, s2, e2, k⟩ := h
  exact ⟨_, s2, by unfold aCons; rw [e1, Option.bind_some, e2]; rfl, k⟩
theorem f_lst (h : Ge (ga s) fun ds s1 => ds.length ≤ sizeLine ∧ QA ds s1) : Ge (fLst ga s) QA := by
  obtain ⟨ds, s1, e, l, k⟩ := h
  exact ⟨ds, s1, by unfold fLst; rw [e, Option.bind_some, if_pos l], k⟩
theorem f_call {m : List PyData → Option (List PyData)} (h : Ge (ga s) fun ds s1 => Gd (m ds) fun d => QA d s1) : Ge (fCall m ga s) QA := by
  obtain ⟨ds, s1, e, d, e2, k⟩ := h
  exact ⟨d, s1, by unfold fCall; rw [e, Option.bind_some, e2]; rfl, k⟩
theorem f_itA (h : Ge (fa s) fun a s1 => (∃ ds, (a = .list ds ∨ a = .tuple ds) ∧ QA ds s1) ∨ ∃ x, a = .str x ∧ QA (signs x) s1) : Ge (itA fa s) QA := by
  obtain ⟨a, s1, e, ⟨ds, rfl | rfl, k⟩ | ⟨x, rfl, k⟩⟩ := h
  · exact ⟨ds, s1, by unfold itA; rw [e]; rfl, k⟩
  · exact ⟨ds, s1, by unfold itA; rw [e]; rfl, k⟩
  · exact ⟨_, s1, by unfold itA; rw [e]; rfl, k⟩
theorem f_r1 (h : Ge (fa s) fun a s1 => ∃ n : Int, a = .int n ∧ 0 ≤ n ∧ n < 2 ^ 62 ∧ QA (rng 0 n) s1) : Ge (itR1 fa s) QA := by
  obtain ⟨a, s1, e, n, rfl, l1, l2, k⟩ := h
  exact ⟨_, s1, by unfold itR1; rw [e, Option.bind_some]; simp only; rw [if_pos ⟨by omega, l2⟩], k⟩
theorem t_tst (h : Ge (fa s) fun a s1 => ∃ b, a = .bool b ∧ QT b s1) : Ge (dTst fa s) QT := by
  obtain ⟨a, s1, e, b, rfl, k⟩ := h
  exact ⟨b, s1, by unfold dTst; rw [e]; rfl, k⟩
theorem t_and (h : Ge (t s) fun b s1 => (b = true ∧ Ge (t' s1) QT) ∨ (b = false ∧ QT false s1)) : Ge (dAndT t t' s) QT := by
  obtain ⟨b, s1, e, ⟨rfl, b', s2, e2, k⟩ | ⟨rfl, k⟩⟩ := h
  · exact ⟨b', s2, by unfold dAndT; rw [e]; simp [e2], k⟩
  · exact ⟨_, s1, by unfold dAndT; rw [e]; simp, k⟩
theorem t_or (h : Ge (t s) fun b s1 => (b = true ∧ QT true s1) ∨ (b = false ∧ Ge (t' s1) QT)) : Ge (dOrT t t' s) QT := by
  obtain ⟨b, s1, e, ⟨rfl, k⟩ | ⟨rfl, b', s2, e2, k⟩⟩ := h
  · exact ⟨_, s1, by unfold dOrT; rw [e]; simp, k⟩
  · exact ⟨b', s2, by unfold dOrT; rw [e]; simp [e2], k⟩
theorem t_not (h : Ge (t s) fun b s1 => QT (!b) s1) : Ge (dNotT t s) QT := by
  obtain ⟨b, s1, e, k⟩ := h
  exact ⟨_, s1, by unfold dNotT; rw [e]; rfl, k⟩
theorem t_yes (k : QT true s) : Ge (tYesD s) QT := ⟨true, s, rfl, k⟩
theorem s_seq (h : Gs (f s) (fun s1 => Gs (g s1) N R) R) : Gs (sSeq f g s) N R := by
  obtain ⟨⟨s1, e, h⟩ | ⟨d, s1, e, h⟩⟩ := h
  · obtain ⟨⟨s2, e2, h⟩ | ⟨d, s2, e2, h⟩⟩ := h
    · exact ⟨.inl ⟨s2, by unfold sSeq; rw [e]; exact e2, h⟩⟩
    · exact ⟨.inr ⟨d, s2, by unfold sSeq; rw [e]; exact e2, h⟩⟩
  · exact ⟨.inr ⟨d, s1, by unfold sSeq; rw [e]; rfl, h⟩⟩
theorem s_nil (k : N s) : Gs (sNil s) N R := ⟨.inl ⟨s, rfl, k⟩⟩
theorem s_set (h : Ge (fa s) fun d s1 => N (s1.set i (.dat d))) : Gs (sSet i fa s) N R := by
  obtain ⟨d, s1, e, k⟩ := h
  exact ⟨.inl ⟨_, by unfold sSet; rw [e]; rfl, k⟩⟩
theorem s_own (h : Ge (ff s) fun d s1 => i < s1.length ∧ N (s1.set i (.own d))) : Gs (sOwn i ff s) N R := by
  obtain ⟨d, s1, e, l, k⟩ := h
  exact ⟨.inl ⟨_, by unfold sOwn; rw [e, Option.bind_some, if_pos l], k⟩⟩
theorem s_ret (h : Ge (fa s) fun d s1 => R d s1) : Gs (sRet fa s) N R := by
  obtain ⟨d, s1, e, k⟩ := h
  exact ⟨.inr ⟨d, s1, by unfold sRet; rw [e]; rfl, k⟩⟩
theorem s_if (h : Ge (t s) fun b s1 => (b = true ∧ Gs (f s1) N R) ∨ (b = false ∧ Gs (g s1) N R)) : Gs (sIf t f g s) N R := by
  obtain ⟨b, s1, e, ⟨rfl, h⟩ | ⟨rfl, h⟩⟩ := h
  · have q : sIf t f g s = f s1 := by unfold sIf; rw [e]; simp
    rw [q]; exact h
  · have q : sIf t f g s = g s1 := by unfold sIf; rw [e]; simp
    rw [q]; exact h
theorem s_frz {ds : List PyData} (h : s[i]? = some (.own ds)) (k : N (s.set i (.dat (.list ds)))) : Gs (sFrz i s) N R := ⟨.inl ⟨_, by unfold sFrz; rw [h], k⟩⟩
theorem s_app {p0 : List PyData} (c : contents s i = some p0) (h : Ge (fa s) fun d s1 => ∃ ds, contents s1 i = some ds ∧ ds.length < sizeLine ∧ N (setC s1 i (ds ++ [d]))) : Gs (sApp i fa s) N R := by
  obtain ⟨d, s1, e, ds, e2, l, k⟩ := h
  exact ⟨.inl ⟨_, by unfold sApp; rw [c, Option.bind_some, e, Option.bind_some, e2, Option.bind_some, if_pos l], k⟩⟩
theorem s_setIx (h : Ge (fa s) fun d s1 => ∃ p0, contents s1 i = some p0 ∧ Ge (fb s1) fun k s2 => ∃ (n : Int) (ds : List PyData), k = .int n ∧ contents s2 i = some ds ∧ Gd (ixN ds.length n) fun j => N (setC s2 i (ds.set j d))) : Gs (sSetIx i fa fb s) N R := by
  obtain ⟨d, s1, e, p0, e2, k, s2, e3, n, ds, rfl, e4, j, e5, q⟩ := h
  exact ⟨.inl ⟨_, by unfold sSetIx; rw [e, Option.bind_some, e2, Option.bind_some, e3, Option.bind_some, e4, Option.bind_some]; simp only [e5, Option.map_some], q⟩⟩
theorem s_asg {gdt : PyData → Sl → Option Sl} (h : Ge (fa s) fun d s1 => Gd (gdt d s1) N) : Gs (sAsg fa gdt s) N R := by
  obtain ⟨d, s1, e, s2, e2, k⟩ := h
  exact ⟨.inl ⟨s2, by unfold sAsg; rw [e, Option.bind_some, e2]; rfl, k⟩⟩
theorem s_par (h : Ge (fa s) fun a s1 => Ge (fb s1) fun b s2 => N ((s2.set i (.dat a)).set j (.dat b))) : Gs (sPar i j fa fb s) N R := by
  obtain ⟨a, s1, e1, b, s2, e2, k⟩ := h
  exact ⟨.inl ⟨_, by unfold sPar; rw [e1, Option.bind_some, e2]; rfl, k⟩⟩
/-- a loop by an invariant over what is left -/
theorem s_for {gdt : PyData → Sl → Option Sl} (I : List PyData → Sl → Prop) (h : Ge (ff s) fun ds s1 => I ds s1) (turn : ∀ d r s1, I (d :: r) s1 → ∃ s2, gdt d s1 = some s2 ∧ Gs (f s2) (fun s3 => I r s3) R) (done : ∀ s1, I [] s1 → N s1) : Gs (sFor ff gdt f s) N R := by
  obtain ⟨ds, s1, e, h⟩ := h
  have go : ∀ (ds : List PyData) (s1 : Sl), I ds s1 → Gs (runFor gdt f ds s1) N R := fun ds => by
    induction ds with
    | nil => intro s1 h; exact ⟨.inl ⟨s1, rfl, done s1 h⟩⟩
    | cons d r ih =>
      intro s1 h
      obtain ⟨s2, e2, b⟩ := turn d r s1 h
      obtain ⟨⟨s3, e3, h3⟩ | ⟨d3, s3, e3, h3⟩⟩ := b
      · have q : runFor gdt f (d :: r) s1 = runFor gdt f r s3 := by
          rw [runFor, e2, Option.bind_some, e3, Option.bind_some]
        rw [q]; exact ih s3 h3
      · exact ⟨.inr ⟨d3, s3, by rw [runFor, e2, Option.bind_some, e3, Option.bind_some], h3⟩⟩
  have q : sFor ff gdt f s = runFor gdt f ds s1 := by unfold sFor; rw [e]; rfl
  rw [q]
  exact go ds s1 h
/-- a comprehension by an invariant over what is left and what is made -/
theorem f_lc (I : List PyData → List PyData → Sl → Prop) (h : Ge (ff s) fun ds s1 => isNo s1[j]? = true ∧ ds.length < sizeLine ∧ I ds [] s1)
    (turn : ∀ d r m s1, I (d :: r) m s1 → Ge (t (s1.set j (.dat d))) fun b s2 => notOwn s2[j]? = true ∧ ((b = true ∧ Ge (fa s2) fun x s3 => notOwn s3[j]? = true ∧ I r (m ++ [x]) s3) ∨ (b = false ∧ I r m s2)))
    (done : ∀ m s1, I [] m s1 → QA m (s1.set j .no)) : Ge (fLc ff j t fa s) QA := by
  obtain ⟨ds, s1, e, n, l, h⟩ := h
  have go : ∀ (ds m : List PyData) (s1 : Sl), I ds m s1 → ∃ xs s2, lcRun j t fa ds s1 = some (xs, s2) ∧ QA (m ++ xs) (s2.set j .no) := fun ds => by
    induction ds with
    | nil => intro m s1 h; exact ⟨[], s1, rfl, by rw [List.append_nil]; exact done m s1 h⟩
    | cons d r ih =>
      intro m s1 h
      obtain ⟨b, s2, e2, n2, ⟨rfl, x, s3, e3, n3, h3⟩ | ⟨rfl, h3⟩⟩ := turn d r m s1 h
      · obtain ⟨xs, s4, e4, h4⟩ := ih _ s3 h3
        exact ⟨x :: xs, s4, by rw [lcRun, e2, Option.bind_some]; simp only [n2, if_true, e3, Option.bind_some, n3, e4, Option.map_some], by simpa using h4⟩
      · obtain ⟨xs, s4, e4, h4⟩ := ih _ s2 h3
        exact ⟨xs, s4, by rw [lcRun, e2, Option.bind_some]; simp [n2, e4], h4⟩
  obtain ⟨xs, s2, e2, h2⟩ := go ds [] s1 h
  exact ⟨xs, s2.set j .no, by unfold fLc; rw [e, Option.bind_some, if_pos ⟨n, l⟩, e2]; rfl, h2⟩
/-- a comprehension whose parts change nothing -/
theorem f_lc_pure (T : PyData → Bool) (F : PyData → PyData) (h : Ge (ff s) fun ds s1 => isNo s1[j]? = true ∧ ds.length < sizeLine ∧ (∀ d ∈ ds, Ge (t (s1.set j (.dat d))) (fun b s2 => b = T d ∧ s2 = s1.set j (.dat d)) ∧
      (T d = true → Ge (fa (s1.set j (.dat d))) fun x s2 => x = F d ∧ s2 = s1.set j (.dat d))) ∧ QA ((ds.filter T).map F) s1) : Ge (fLc ff j t fa s) QA := by
  obtain ⟨ds, s1, e, n, l, turn, k⟩ := h
  have hn := isNo_eq n
  have hj : j < s1.length := by
    rcases Nat.lt_or_ge j s1.length with z | z
    · exact z
    · rw [List.getElem?_eq_none z] at hn; cases hn
  have same : s1.set j .no = s1 := by
    refine List.ext_getElem? fun i => ?_
    rw [List.getElem?_set]
    split
    · rename_i q
      subst q
      simp [hj]
      rw [List.getElem?_eq_getElem hj] at hn
      exact (Option.some.inj hn).symm
    · rfl
  refine f_lc (I := fun r m s' => ∃ pre, pre ++ r = ds ∧ m = (pre.filter T).map F ∧ ∀ v, s'.set j v = s1.set j v) ⟨ds, s1, e, n, l, [], rfl, rfl, fun _ => rfl⟩ (fun d r m s' hI => ?_) (fun m s' hI => ?_)
  · obtain ⟨pre, hp, rfl, hs⟩ := hI
    have mem : d ∈ ds := by rw [← hp]; simp
    obtain ⟨t1, t2⟩ := turn d mem
    rw [hs]
    have at_ : (s1.set j (.dat d))[j]? = some (.dat d) := by simp [hj]
    have back : ∀ v, (s1.set j (.dat d)).set j v = s1.set j v := fun v => by rw [List.set_set]
    refine ge_mono t1 fun b s2 q => ?_
    obtain ⟨rfl, rfl⟩ := q
    refine ⟨by rw [at_]; rfl, ?_⟩
    cases hT : T d with
    | true =>
      refine .inl ⟨rfl, ge_mono (t2 hT) fun x s3 q => ?_⟩
      obtain ⟨rfl, rfl⟩ := q
      exact ⟨by rw [at_]; rfl, pre ++ [d], by rw [← hp]; simp, by simp [List.filter_append, hT], back⟩
    | false => exact .inr ⟨rfl, pre ++ [d], by rw [← hp]; simp, by simp [List.filter_append, hT], back⟩
  · obtain ⟨pre, hp, rfl, hs⟩ := hI
    rw [List.append_nil] at hp
    subst hp
    rw [hs, same]
    exact k
/-! ### defs -/
theorem m_fnP {N : List Str} {n : Nat} {b : DS} {ds : List PyData} {q : PyData → Prop} (l : ds.length = n) (h : Gs (b (startS N ds)) (fun _ => q .none) fun d _ => q d) : Gd (fnP N n b ds) q := by
  obtain ⟨⟨s1, e, k⟩ | ⟨d, s1, e, k⟩⟩ := h
  · exact ⟨.none, by unfold fnP; rw [if_pos l, e]; rfl, k⟩
  · exact ⟨d, by unfold fnP; rw [if_pos l, e]; rfl, k⟩
theorem m_fnM {N : List Str} {n : Nat} {b : DS} {pd ds : List PyData} {q : PyData × List PyData → Prop} (l : ds.length + 1 = n)
    (h : Gs (b (startM N pd ds)) (fun s => ∃ pd', potOf s[0]? = some pd' ∧ q (.none, pd')) fun d s => ∃ pd', potOf s[0]? = some pd' ∧ q (d, pd')) : Gd (fnM N n b pd ds) q := by
  obtain ⟨⟨s1, e, pd', e2, k⟩ | ⟨d, s1, e, pd', e2, k⟩⟩ := h
  · exact ⟨_, by unfold fnM; rw [if_pos l, e]; simp only [outM, e2, Option.map_some], k⟩
  · exact ⟨_, by unfold fnM; rw [if_pos l, e]; simp only [outM, e2, Option.map_some], k⟩
theorem m_fnF {N : List Str} {n : Nat} {b : DF} {ds : List PyData} {q : List PyData → Prop} (l : ds.length = n) (h : Ge (b (startS N ds)) fun d _ => q d) : Gd (fnF N n b ds) q := by
  obtain ⟨d, s1, e, k⟩ := h
  exact ⟨d, by unfold fnF; rw [if_pos l, e]; rfl, k⟩
theorem r_seq {q : List PyData → Sl → Prop} (h : Gs (f s) (fun s1 => Ge (ff s1) q) fun _ _ => False) : Ge (rSeq f ff s) q := by
  obtain ⟨⟨s1, e, d, s2, e2, k⟩ | ⟨d, s1, e, k⟩⟩ := h
  · exact ⟨d, s2, by unfold rSeq; rw [e]; exact e2, k⟩
  · exact k.elim
theorem few_and {n : Nat} {p : Prop} (h : n ≤ 1000) (k : p) : n ≤ sizeLine ∧ p := ⟨Nat.le_trans h (by decide), k⟩
/-! ### numbers -/
theorem lg {x : Int} {k : Nat} (hk : 0 < k) (h0 : -(2 ^ k) < x) (h : x < 2 ^ k) : x.natAbs.log2 < k := by
  by_cases z : x.natAbs = 0
  · rw [z]; exact hk
  · refine (Nat.log2_lt z).mpr ?_
    have e : ((2 ^ k : Nat) : Int) = (2 : Int) ^ k := by simp
    omega
theorem two_pos (k : Nat) : (0 : Int) < 2 ^ k := Int.pow_pos (by decide)
theorem n_pow (k : Nat) {a : Int} {b : Nat} (ha : 0 ≤ a) (hl : a < 2 ^ k) (hk : 0 < k) (hb : k * b ≤ 2 ^ 20) (h : 0 ≤ a ^ b → D (.int (a ^ b))) : Gd (gPow (.int a) (.int b)) D := by
  have p := two_pos k
  have l : a.natAbs.log2 < k := lg hk (by omega) hl
  have c : (0 : Int) ≤ (b : Int) ∧ ((a.natAbs.log2 + 1 : Nat) : Int) * b ≤ 2 ^ 27 := by
    refine ⟨by omega, ?_⟩
    have e : (a.natAbs.log2 + 1) * b ≤ k * b := Nat.mul_le_mul_right _ l
    have e2 : (((a.natAbs.log2 + 1) * b : Nat) : Int) ≤ 2 ^ 20 := by
      have : ((2 ^ 20 : Nat) : Int) = 2 ^ 20 := by decide
      omega
    rw [Int.natCast_mul] at e2
    exact Int.le_trans e2 (by decide)
  refine gd (a := .int (a ^ b)) ?_ (h (Int.pow_nonneg ha))
  unfold gPow gInt
  simp only [c, and_self, if_true, Option.map_some, Int.toNat_natCast]
theorem n_add {a b : Int} (h : D (.int (a + b))) : Gd (gAdd (.int a) (.int b)) D := ⟨_, rfl, h⟩
theorem n_sub {a b : Int} (h : D (.int (a - b))) : Gd (gSub (.int a) (.int b)) D := ⟨_, rfl, h⟩
theorem n_mod {a b : Int} (l : 0 < b) (h : 0 ≤ a % b → a % b < b → D (.int (a % b))) : Gd (gMod (.int a) (.int b)) D := ⟨_, by unfold gMod gInt; simp only [l, if_true, Option.map_some], h (Int.emod_nonneg _ (by omega)) (Int.emod_lt_of_pos _ l)⟩
theorem n_div {a b : Int} (l : 0 < b) (u : b < 2 ^ 100) (h : D (.int (a / b))) : Gd (gDiv (.int a) (.int b)) D := by
  have c : 0 < b ∧ b.natAbs.log2 < 9000 := ⟨l, Nat.lt_of_lt_of_le (lg (by decide) (by have := two_pos 100; omega) u) (by decide)⟩
  exact ⟨_, by unfold gDiv gInt; simp only [c, and_self, if_true, Option.map_some], h⟩
theorem n_mul (k : Nat) {a b : Int} (ha : -(2 ^ k) < a) (ha' : a < 2 ^ k) (hb : -(2 ^ k) < b) (hb' : b < 2 ^ k) (hk : 0 < k) (few : k ≤ 400000) (h : D (.int (a * b))) : Gd (gMul (.int a) (.int b)) D := by
  have l1 := lg hk ha ha'
  have l2 := lg hk hb hb'
  have c : a.natAbs.log2 + b.natAbs.log2 < 1000000 := by omega
  exact ⟨_, by unfold gMul gInt; simp only [c, if_true, Option.map_some], h⟩
theorem n_gt {a b : Int} (h : D (.bool (decide (b < a)))) : Gd (gGt (.int a) (.int b)) D := ⟨_, rfl, h⟩
theorem n_ge {a b : Int} (h : D (.bool (decide (b ≤ a)))) : Gd (gGe (.int a) (.int b)) D := ⟨_, rfl, h⟩
theorem n_lt {a b : Int} (h : D (.bool (decide (a < b)))) : Gd (gLt (.int a) (.int b)) D := ⟨_, rfl, h⟩
theorem n_le {a b : Int} (h : D (.bool (decide (a ≤ b)))) : Gd (gLe (.int a) (.int b)) D := ⟨_, rfl, h⟩
end
end Dl

/-! ### while, a name forgotten, gcd, // by any divisor, the head by any check -/
namespace Dl
open PySem PySem.Spec PyProof.Rows L2
/-- while, n turns at most -/
def sWhile (t : DT) (b : DS) : Nat → DS
  | 0 => fun _ => none
  | n + 1 => fun s => (t s).bind fun p => if p.1 = true then (b p.2).bind fun fl => match fl with
      | .nx s' => sWhile t b n s'
      | .ct s' => sWhile t b n s'
      | .bk s' => some (.nx s')
      | .rt d s' => some (.rt d s')
    else some (.nx p.2)
/-- more turns than any loop here has -/
def bigF : Nat := 2 ^ 1000
/-- a name of which nothing is known from here on -/
def sFgt (j : Nat) : DS := fun s => if notOwn s[j]? = true then some (.nx (s.set j .no)) else none
section
variable {X : Cx} {Z : Par} {a b e : Expr} {es : List Expr} {pos : Pos} {fa fb fc : DE} {ff : DF} {ga : DA} {st : Stmt} {sts : List Stmt} {f g : DS} {t : DT}
theorem lift_while {K : PySem.W.Frag} {n : Nat} {D : Ends} {σ : L2.St} {H : Hp} (h : lfS K Z (sWhile t f n) D σ H) : tWhile (lfT K Z t) (lfS K Z f) D σ H := by
  obtain ⟨M, s, fl, rl, hf, k⟩ := h
  refine ⟨fun m σ' H' => ∃ M' s', Kq Z M H M' H' ∧ Rel K Z M' σ' H' s' ∧ sWhile t f m s' = some fl, ⟨n, M, s, Kq.refl _ _ _, rl, hf⟩, ?_⟩
  rintro m σ' H' ⟨M', s', k2, r2, h3⟩
  cases m with
  | zero => cases h3
  | succ m =>
    unfold sWhile at h3
    simp only [Option.bind_eq_some_iff] at h3
    obtain ⟨⟨b1, s1⟩, e1, h4⟩ := h3
    dsimp only at h4
    refine ⟨M', s', b1, s1, r2, e1, fun H1 k1 r1 => ?_⟩
    cases b1 with
    | true =>
      rw [if_pos rfl]
      rw [if_pos rfl] at h4
      simp only [Option.bind_eq_some_iff] at h4
      obtain ⟨fl1, e2, h5⟩ := h4
      refine ⟨fun σ3 H3 => ∃ M3 s3, Kq Z M H M3 H3 ∧ Rel K Z M3 σ3 H3 s3 ∧ sWhile t f m s3 = some fl, fun σ3 H3 q => ⟨m, Nat.lt_succ_self _, q⟩, ?_⟩
      refine ⟨M', s1, fl1, r1, e2, ?_⟩
      have kk : Kq Z M H M' H1 := k2.trans k1
      cases fl1 with
      | nx s4 => exact fun M4 σ4 H4 k4 r4 => ⟨M4, s4, kk.trans k4, r4, h5⟩
      | ct s4 => exact fun M4 σ4 H4 k4 r4 => ⟨M4, s4, kk.trans k4, r4, h5⟩
      | bk s4 => cases h5; exact fun M4 σ4 H4 k4 r4 => k M4 σ4 H4 (kk.trans k4) r4
      | rt d4 s4 => cases h5; exact fun M4 σ4 H4 v4 k4 r4 t4 => k M4 σ4 H4 v4 (kk.trans k4) r4 t4
    | false =>
      rw [if_neg Bool.false_ne_true]
      rw [if_neg Bool.false_ne_true] at h4
      cases h4
      exact k M' σ' H1 (k2.trans k1) r1
theorem swhile (n : Nat) {c : Expr} {body : List Stmt} (hp : PassesOwn (model X.prog X.w) X.A X.env X.xe) (hc : PT X c (lfT X.K Z t)) (hb : PSs X body (lfS X.K Z f)) : PS X (.While c body [] pos) (lfS X.K Z (sWhile t f n)) :=
  PSimp (ps_while hp hc hb) fun _ _ _ h => lift_while h
theorem sfgt {j : Nat} (h : PSs X sts (lfS X.K Z g)) : PSs X sts (lfS X.K Z (sSeq (sFgt j) g)) := PSsimp h fun D σ H h => by
  obtain ⟨M, s, fl, rl, h1, k⟩ := h
  unfold sSeq sFgt at h1
  simp only [Option.bind_eq_some_iff] at h1
  obtain ⟨fl1, h1, h2⟩ := h1
  split at h1
  · rename_i hn
    cases h1
    have q := rl.sl.forget (x := σ[j]?.join) j (notOwn_ne hn)
    have e : σ.set j (σ[j]?.join) = σ := by
      apply List.ext_getElem?
      intro i'
      by_cases e : i' = j
      · subst e
        by_cases hl : i' < σ.length
        · rw [List.getElem?_set_self hl, List.getElem?_eq_getElem hl]; rfl
        · rw [List.getElem?_eq_none (by simpa using hl), List.getElem?_eq_none (by simpa using hl)]
      · rw [List.getElem?_set_ne (Ne.symm e)]
    rw [e] at q
    exact ⟨M, _, fl, rl.withSl q, h2, k⟩
  · cases h1

/-! gcd -/
def gGcd : List PyData → Option PyData
  | [.int a, .int b] => some (.int ((Nat.gcd a.natAbs b.natAbs : Nat) : Int))
  | _ => none
theorem ok_gcd {K : PySem.W.Frag} : CallOk K rGcd gGcd := fun mu H xs ds d Q hm t e k => by
  unfold gGcd at e
  split at e
  · obtain ⟨x, y, rfl, t1, u⟩ := two_of t
    cases e
    exact ⟨_, _, by rw [t1.inti, u.inti], k _ H (fun _ _ z => z) (.int _)⟩
  · cases e
/-- a call of a built-in that a name of the module holds -/
theorem dcbf {x : Str} {p : Pos} {id : String} {r : List V → Hp → VK → Prop} {g : List PyData → Option PyData} (hc : CallR X (.builtin id) r) (ok : CallOk X.K r g) (hg : Gl X x) (hm : X.mg x = some (.builtin id)) (ha : PA X (e :: es) (lfA X.K Z ga))
    (hdb : (x == ("__debug__" : Str)) = false := by decide) (he : starEach (e :: es) X.env = (false, eval e X.env) :: starEach es X.env := by rfl) (hpl : (backTo pos (starEach es X.env)).any (·.1) = false := by rfl) : PE X (.Call (.Name x p) (e :: es) [] pos) (lft X.K Z (dB g ga)) :=
  PEimp (pe_callBfun hc hg hm ha hdb he hpl) fun _ _ _ h => lift_cb ok h

/-! // by any divisor but 0 -/
def CDivA (_ j : Int) : Prop := j ≠ 0 ∧ j.natAbs.log2 < 9000
theorem op_fdivA : OpR X (binaryOp .FloorDiv) (rI CDivA fun i j => .int (i.fdiv j)) := opI fun _ _ _ _ _ _ _ hc q => floordiv_int hc.1 q (.inl (PyProof.noPylong_of_log2 hc.2))
def gDivA : PyData → PyData → Option PyData := gInt fun a b => if b ≠ 0 ∧ b.natAbs.log2 < 9000 then some (a.fdiv b) else none
theorem ok_divA {K : PySem.W.Frag} : OpOk K (rI CDivA fun i j => .int (i.fdiv j)) gDivA := okI fun a b c h => by
  split at h
  · cases h; exact ⟨by assumption, rfl⟩
  · cases h
end
section
variable {N : Sl → Prop} {R : PyData → Sl → Prop} {s : Sl} {t : DT} {f g : DS} {D : PyData → Prop} {j : Nat}
theorem s_fgt (h : notOwn s[j]? = true) (k : N (s.set j .no)) : Gs (sFgt j s) N R := ⟨.inl ⟨_, by unfold sFgt; rw [if_pos h], k⟩⟩
/-- while by an invariant with its measure -/
theorem s_while {n : Nat} (I : Nat → Sl → Prop) (h : ∃ m, m < n ∧ I m s) (turn : ∀ m s, I m s → Ge (t s) fun b s1 => (b = true ∧ Gs (f s1) (fun s2 => ∃ m', m' < m ∧ I m' s2) R) ∨ (b = false ∧ N s1)) : Gs (sWhile t f n s) N R := by
  obtain ⟨m, hm, h⟩ := h
  induction n generalizing m s with
  | zero => omega
  | succ n ih =>
    obtain ⟨b, s1, e, ⟨rfl, q⟩ | ⟨rfl, q⟩⟩ := turn m s h
    · obtain ⟨⟨s2, e2, m', l, q⟩ | ⟨d, s2, e2, q⟩⟩ := q
      · have w : sWhile t f (n + 1) s = sWhile t f n s2 := by
          simp only [sWhile, e, Option.bind_some, if_true, e2]
        rw [w]
        exact ih m' (by omega) q
      · exact ⟨.inr ⟨d, s2, by simp only [sWhile, e, Option.bind_some, if_true, e2], q⟩⟩
    · exact ⟨.inl ⟨s1, by simp [sWhile, e], q⟩⟩
theorem n_divA {a b : Int} (l : 0 < b) (u : b < 2 ^ 200) (h : D (.int (a / b))) : Gd (gDivA (.int a) (.int b)) D := by
  have c : b ≠ 0 ∧ b.natAbs.log2 < 9000 := ⟨by omega, Nat.lt_of_lt_of_le (lg (by decide) (by have := two_pos 200; omega) u) (by decide)⟩
  refine ⟨_, ?_, h⟩
  unfold gDivA gInt
  simp only [c, and_self, ne_eq, not_false_eq_true, if_true, Option.map_some]
  rw [Int.fdiv_eq_ediv_of_nonneg a (by omega)]
theorem n_divN {a b : Int} (l : b ≠ 0) (u : b.natAbs < 2 ^ 200) (h : D (.int (a.fdiv b))) : Gd (gDivA (.int a) (.int b)) D := by
  have c : b ≠ 0 ∧ b.natAbs.log2 < 9000 := ⟨l, by
    by_cases z : b.natAbs = 0
    · rw [z]; decide
    · exact Nat.lt_of_lt_of_le ((Nat.log2_lt z).mpr u) (by decide)⟩
  refine ⟨_, ?_, h⟩
  unfold gDivA gInt
  simp only [c, and_self, ne_eq, not_false_eq_true, if_true, Option.map_some]
end

/-! ### the head by any check of it -/
def bnB (K : PySem.W.Frag) (c : Str × String) : Bool := He.eqO (PySem.W.nsIn K mainGlobals c.1) (some (some (.builtin c.2)))
def obsC (n : Nat) (fa : List He.Fa) (fn : List He.DefD) (ck : PySem.W.Frag → Bool) (g : Addr → Option Obj) : Bool × He.AlD :=
  (ck (He.frG g (He.asD g n)), He.obsDG n fa fn g)
def hookC (n : Nat) (fa : List He.Fa) (fn : List He.DefD) (ck : PySem.W.Frag → Bool) : PySem.W.Hook where
  α := Bool × He.AlD
  obs := fun s => obsC n fa fn ck s.heap.get?
  val := fun _ => (true, He.valD fn)
  says := fun _ h => ∃ K : PySem.W.Frag, K.In h ∧ He.SaysD fa fn K ∧ ck K = true
  of := fun _ _ e => ⟨_, He.frG_in, congrArg Prod.snd e, congrArg Prod.fst e⟩
  keeps := fun _ _ _ ⟨K, X, c⟩ k => ⟨K, PySem.W.Frag.In.keeps X k, c⟩
theorem obsC_eq {n : Nat} {fa : List He.Fa} {fn : List He.DefD} {ck : PySem.W.Frag → Bool} {g : Addr → Option Obj} {s : Shared} (h : ∀ a, g a = s.heap.get? a) : obsC n fa fn ck g = (hookC n fa fn ck).obs s := by
  obtain rfl : g = s.heap.get? := funext h
  rfl
section
variable {K : PySem.W.Frag} {h : Heap} {mg : Str → Option Value} {fa : List He.Fa} {fn : List He.DefD} {bs : List (Str × String)}
theorem bn_of (X : K.In h) (G : h.Ns mainGlobals mg) (c : bs.all (bnB K) = true) (i : Nat) {x : Str} {d : String} (at_ : bs[i]? = some (x, d) := by rfl) : mg x = some (.builtin d) :=
  PySem.W.mg_of X G (He.eqO_ok (List.all_eq_true.mp c _ (List.mem_of_getElem? at_)))
end
/-- the law walked: what is asked of the program is that its meaning at each script is True -/
theorem walk_dataC {l : PySem.W.OpenLaw} {n k : Nat} {q : Program} {loose : List Str} {XP : (Str → Option Value) → Heap → Prop} {d : DefRec} {fa : List He.Fa} {fn : List He.DefD} {ck : PySem.W.Frag → Bool} {m : Nat} {x p : Str} {st : Stmt} {N : List Str} {b : DS}
    (most : l.most = some n) (few : n ≤ sizeLine) (hdf : d.params.defaults = []) (name : d.name = x) (alone : importsNone q = true) (room : Room (k + 1) callerA) (S : FnScope N [p] (defScope st))
    (F : ∀ (w : World) (mg : Str → Option Value) (h : Heap) (K : PySem.W.Frag), K.In h → h.Ns mainGlobals mg → He.SaysD fa fn K → ck K = true → ∃ (f : Addr) (fd : FuncData), mg x = some (.ref f) ∧ Fun K x x st f fd ∧ (∀ (s : Shared) (u : Value), BindsTo s fd ⟨[u], []⟩ [(p, u)]) ∧
      ∀ (base : Heap) (cdv : Value) (s : Shared) (H : Hp) (Z : Par), Mod K mg base → Room k (callerA.deeper (envOfC x (defScope st) s.heap.objs.size f cdv)) → CG (cxOf CX0 l.prog w K mg base N x (defScope st) f cdv callerA [] s H E0).nox →
        PSs (cxOf CX0 l.prog w K mg base N x (defScope st) f cdv callerA [] s H E0).nox (defBody st) (lfS K Z b))
    (T : ∀ ns : List Int, ns.length ≤ n → fnP N 1 b [.dict [(.none, .list (ns.map .int))]] = some (.bool true)) :
    PySem.W.WalkO q loose XP (hookC m fa fn ck).says l.row.toRowW d [] (fun f vs => PySem.call f vs) := by
  refine Att.attach_call most hdf fun w s₀ s₁ mg mb f o pm cd doc a vs ns G Y _ _ _ hmg hobj hints hlen hg => ?_
  obtain ⟨K, X, c1, c2⟩ := Y
  obtain ⟨f', fd, e, Fn, bt, body⟩ := F w mg _ K X G.T.g c1 c2
  rw [name] at hmg
  cases e.symm.trans hmg
  obtain ⟨mm, sees, _⟩ := (G.T.seer alone).mods
  exact law_here X G.T.g G.T.b G.T.builtins G.T.nolimit ⟨mm, sees⟩ hg hobj hints (Nat.le_trans hlen few) room Fn S bt body (T ns hlen)
end Dl

namespace K57
open PySem PySem.Spec PyProof.Rows L2 Dl
def topS (i : Nat) : Stmt := PySem.Challenge.pw_askround_k57_fractions.main.body.getD i (.Pass ⟨0, 0, 0, 0⟩)
structure Tx (K : PySem.W.Frag) (mg : Str → Option Value) : Prop where
  b_abs : mg "abs" = none
  b_bool : mg "bool" = none
  b_int : mg "int" = none
  b_isinstance : mg "isinstance" = none
  b_len : mg "len" = none
  b_max : mg "max" = none
  b_min : mg "min" = none
  b_range : mg "range" = none
  b_repr : mg "repr" = none
  b_tuple : mg "tuple" = none
  q_gcd : mg "gcd" = some (.builtin "math.gcd")
section
variable {P : Program} {w : World} {K : PySem.W.Frag} {mg : Str → Option Value} {base : Heap}
/-! #### is_whole -/
abbrev s_is_whole : Stmt := topS 2
theorem sc_is_whole : FnScope ["thing"] ["thing"] (defScope s_is_whole) := ⟨rfl, rfl, rfl, by decide +kernel, rfl, by decide +kernel, by decide +kernel⟩
def b_is_whole : DS := (sRet (dAnd (dUn (gIsi "int") (dVar 0)) (dNot (dUn (gIsi "bool") (dVar 0)))))
def m_is_whole : List PyData → Option PyData := fnP ["thing"] 1 b_is_whole
theorem ok_is_whole (F : Std K mg "is_whole" s_is_whole ["thing"]) (T : Tx K mg)  : Cal P w K mg base 1 "is_whole" ["thing"] (spP K m_is_whole) := by
  refine calP F sc_is_whole (fun f cdv A outer s H E Z hr => ?_)
  unfold b_is_whole
  exact (sone (sret (dand (disi isi_int (by rfl) T.b_isinstance (by decide +kernel) (by rfl) T.b_int (by decide +kernel) (dv 0)) (pe_one (dnot (disi isi_bool (by rfl) T.b_isinstance (by decide +kernel) (by rfl) T.b_bool (by decide +kernel) (dv 0)))))))
/-! #### is_fraction -/
abbrev s_is_fraction : Stmt := topS 4
theorem sc_is_fraction : FnScope ["thing", "p", "q"] ["thing"] (defScope s_is_fraction) := ⟨rfl, rfl, rfl, by decide +kernel, rfl, by decide +kernel, by decide +kernel⟩
def b_is_fraction : DS := (sSeq (sIf (dOrT (dNotT (dTst (dUn (gIsi "tuple") (dVar 0)))) (dTst (dOp gNe (dB gLen (aCons (dVar 0) aNil)) (dC (.int 2)))))
  (sRet (dC (.bool false)))
  sNil)
  (sSeq (sAsg (dVar 0) (tgT [(tgN 1), (tgN 2)]))
  (sRet (dAnd (dCall m_is_whole (aCons (dVar 1) aNil)) (dAnd (dCall m_is_whole (aCons (dVar 2) aNil)) (dAnd (dOp gGe (dVar 2) (dC (.int 1))) (dOp gEq (dB gGcd (aCons (dVar 1) (aCons (dVar 2) aNil))) (dC (.int 1)))))))))
def m_is_fraction : List PyData → Option PyData := fnP ["thing", "p", "q"] 1 b_is_fraction
theorem ok_is_fraction (F : Std K mg "is_fraction" s_is_fraction ["thing"]) (T : Tx K mg) (c_is_whole : Cal P w K mg base 1 "is_whole" ["thing"] (spP K m_is_whole)) : Cal P w K mg base 2 "is_fraction" ["thing"] (spP K m_is_fraction) := by
  refine calP F sc_is_fraction (fun f cdv A outer s H E Z hr => ?_)
  unfold b_is_fraction
  exact (scons (sif (PW.pt (dtor (dtnot (dt (disi isi_tuple (by rfl) T.b_isinstance (by decide +kernel) (by rfl) T.b_tuple (by decide +kernel) (dv 0)))) (pw_or1 (dtcmp (op_neA hr.units) ok_ne (dcb call_len ok_len (by rfl) T.b_len boot_len (dac (dv 0) danil)) di (nomark _)))))
  (sone (sret db))
  snil)
  (scons (sasg (dv 0) (pg_tup rfl (pgs_cons (pg_name (i := 1) sc_is_fraction.nd rfl (by first | exact .inl rfl | exact .inr rfl)) (pgs_cons (pg_name (i := 2) sc_is_fraction.nd rfl (by first | exact .inl rfl | exact .inr rfl)) pgs_nil))) (tgt rfl (tgscons tgn (tgscons tgn tgsnil))))
  (sone (sret (dand (dcl c_is_whole hr (by decide) (by rfl) (dac (dv 1) danil)) (dand (dcl c_is_whole hr (by decide) (by rfl) (dac (dv 2) danil)) (dand (dcmp op_ge ok_ge (dv 2) di (nomark _)) (pe_one (dcmp (op_eqA hr.units) ok_eq (dcbf cr_gcd ok_gcd (by rfl) T.q_gcd (dac (dv 1) (dac (dv 2) danil))) di (nomark _))))))))))
/-! #### fraction -/
abbrev s_fraction : Stmt := topS 5
theorem sc_fraction : FnScope ["p", "q", "shared"] ["p", "q"] (defScope s_fraction) := ⟨rfl, rfl, rfl, by decide +kernel, rfl, by decide +kernel, by decide +kernel⟩
def b_fraction : DS := (sSeq (sSet 2 (dIf (dTst (dOp gGt (dVar 1) (dC (.int 0)))) (dB gGcd (aCons (dVar 0) (aCons (dVar 1) aNil))) (dUn gNeg (dB gGcd (aCons (dVar 0) (aCons (dVar 1) aNil))))))
  (sRet (dTup (aCons (dOp gDivA (dVar 0) (dVar 2)) (aCons (dOp gDivA (dVar 1) (dVar 2)) aNil)))))
def m_fraction : List PyData → Option PyData := fnP ["p", "q", "shared"] 2 b_fraction
theorem ok_fraction (F : Std K mg "fraction" s_fraction ["p", "q"]) (T : Tx K mg)  : Cal P w K mg base 1 "fraction" ["p", "q"] (spP K m_fraction) := by
  refine calP F sc_fraction (fun f cdv A outer s H E Z hr => ?_)
  unfold b_fraction
  exact (scons (sset (i := 2) sc_fraction.nd rfl (by first | exact .inl rfl | exact .inr rfl) (dif_ (dtcmp op_gt ok_gt (dv 1) di (nomark _)) (dcbf cr_gcd ok_gcd (by rfl) T.q_gcd (dac (dv 0) (dac (dv 1) danil))) (du un_neg ok_neg (dcbf cr_gcd ok_gcd (by rfl) T.q_gcd (dac (dv 0) (dac (dv 1) danil))))))
  (sone (sret (dtup (dac (do_ op_fdivA ok_divA (dv 0) (dv 2)) (dac (do_ op_fdivA ok_divA (dv 1) (dv 2)) danil))))))
/-! #### _law_pot -/
abbrev s__law_pot : Stmt := topS 7
theorem sc__law_pot : FnScope ["_law_script", "_law_k", "_law_cell"] ["_law_script", "_law_k"] (defScope s__law_pot) := ⟨rfl, rfl, rfl, by decide +kernel, rfl, by decide +kernel, by decide +kernel⟩
def b__law_pot : DF := (rSeq (sSet 2 (dC (.int 0)))
  (rSeq (sIf (dTst (dOp gLt (dVar 1) (dB gLen (aCons (dVar 0) aNil))))
  (sSet 2 (dOp gMod (dB gAbs (aCons (dOp gIx (dVar 0) (dVar 1)) aNil)) (dOp gPow (dOp gPow (dC (.int 10)) (dC (.int 60))) (dC (.int 10)))))
  sNil)
  (fLst (aCons (dOp gMul (dVar 2) (dB gInt1 (aCons (dOp gGe (dVar 2) (dOp gPow (dC (.int 10)) (dC (.int 18)))) aNil))) (aCons (dOp gMod (dOp gPow (dOp gAdd (dOp gAdd (dOp gMod (dVar 2) (dC (.int 2147483629))) (dOp gMul (dC (.int 7919)) (dVar 1))) (dC (.int 1))) (dC (.int 5))) (dC (.int 2305843009213693951))) (aCons (dC (.int 0)) aNil))))))
def m__law_pot : List PyData → Option (List PyData) := fnF ["_law_script", "_law_k", "_law_cell"] 2 b__law_pot
theorem ok__law_pot (F : Std K mg "_law_pot" s__law_pot ["_law_script", "_law_k"]) (T : Tx K mg)  : Cal P w K mg base 1 "_law_pot" ["_law_script", "_law_k"] (spF K m__law_pot) := by
  refine calF F sc__law_pot (fun f cdv A outer s H E Z hr => ?_)
  unfold b__law_pot
  exact (rcons (sset (i := 2) sc__law_pot.nd rfl (by first | exact .inl rfl | exact .inr rfl) di)
  (rcons (sif (dtcmp op_ltA ok_lt (dv 1) (dcb call_len ok_len (by rfl) T.b_len boot_len (dac (dv 0) danil)) (nomark _))
  (sone (sset (i := 2) sc__law_pot.nd rfl (by first | exact .inl rfl | exact .inr rfl) (do_ op_mod ok_mod (dcb call_abs ok_abs (by rfl) T.b_abs (by decide +kernel) (dac (dix ix_seq ok_ix (dv 0) (dv 1)) danil)) (do_ op_powW ok_pow (do_ op_powW ok_pow di di) di))))
  snil)
  (rone (rret (flst (dac (do_ op_mulW ok_mul (dv 2) (dcty call_int1 ok_int1 (by rfl) T.b_int (by decide +kernel) (dac (dcmp op_ge ok_ge (dv 2) (do_ op_powW ok_pow di di) (nomark _)) danil))) (dac (do_ op_mod ok_mod (do_ op_powW ok_pow (do_ op_addA ok_add (do_ op_addA ok_add (do_ op_mod ok_mod (dv 2) di) (do_ op_mulW ok_mul di (dv 1))) di) di) di) (dac di danil))))))))
/-! #### _law_take -/
abbrev s__law_take : Stmt := topS 8
theorem sc__law_take : FnScope ["_law_pot_here", "_law_many", "_law_found", "_law_one", "_law_other"] ["_law_pot_here", "_law_many"] (defScope s__law_take) := ⟨rfl, rfl, rfl, by decide +kernel, rfl, by decide +kernel, by decide +kernel⟩
def b__law_take : DS := (sSeq (sIf (dTst (dOp gGt (dIxC 0 (dC (.int 0))) (dC (.int 0))))
  (sSeq (sSet 2 (dOp gMod (dIxC 0 (dC (.int 0))) (dVar 1)))
  (sSeq (sSetIx 0 (dOp gDivA (dIxC 0 (dC (.int 0))) (dVar 1)) (dC (.int 0)))
  (sRet (dVar 2))))
  sNil)
  (sSeq (sSetIx 0 (dOp gAdd (dIxC 0 (dC (.int 2))) (dC (.int 1))) (dC (.int 2)))
  (sSeq (sSet 3 (dOp gMod (dOp gPow (dOp gAdd (dIxC 0 (dC (.int 1))) (dOp gMul (dC (.int 104729)) (dIxC 0 (dC (.int 2))))) (dC (.int 3))) (dC (.int 2305843009213693921))))
  (sSeq (sSet 4 (dOp gMod (dOp gPow (dOp gAdd (dOp gAdd (dVar 3) (dOp gMod (dIxC 0 (dC (.int 1))) (dC (.int 65537)))) (dOp gMul (dC (.int 31)) (dIxC 0 (dC (.int 2))))) (dC (.int 5))) (dC (.int 2305843009213693907))))
  (sRet (dOp gMod (dOp gDivA (dVar 4) (dC (.int 1024))) (dVar 1)))))))
def m__law_take : List PyData → List PyData → Option (PyData × List PyData) := fnM ["_law_pot_here", "_law_many", "_law_found", "_law_one", "_law_other"] 2 b__law_take
theorem ok__law_take (F : Std K mg "_law_take" s__law_take ["_law_pot_here", "_law_many"]) (T : Tx K mg)  : Cal P w K mg base 1 "_law_take" ["_law_pot_here", "_law_many"] (spM K m__law_take) := by
  refine calM F sc__law_take (fun f cdv A outer s H E Z hr => ?_)
  unfold b__law_take
  exact (scons (sif (dtcmp op_gt ok_gt (dixC 0 (pv 0) di) di (nomark _))
  (scons (sset (i := 2) sc__law_take.nd rfl (by first | exact .inl rfl | exact .inr rfl) (do_ op_mod ok_mod (dixC 0 (pv 0) di) (dv 1)))
  (scons (ssetIx 0 (do_ op_fdivA ok_divA (dixC 0 (pv 0) di) (dv 1)) (pv 0) di)
  (sone (sret (dv 2)))))
  snil)
  (scons (ssetIx 0 (do_ op_addA ok_add (dixC 0 (pv 0) di) di) (pv 0) di)
  (scons (sset (i := 3) sc__law_take.nd rfl (by first | exact .inl rfl | exact .inr rfl) (do_ op_mod ok_mod (do_ op_powW ok_pow (do_ op_addA ok_add (dixC 0 (pv 0) di) (do_ op_mulW ok_mul di (dixC 0 (pv 0) di))) di) di))
  (scons (sset (i := 4) sc__law_take.nd rfl (by first | exact .inl rfl | exact .inr rfl) (do_ op_mod ok_mod (do_ op_powW ok_pow (do_ op_addA ok_add (do_ op_addA ok_add (dv 3) (do_ op_mod ok_mod (dixC 0 (pv 0) di) di)) (do_ op_mulW ok_mul di (dixC 0 (pv 0) di))) di) di))
  (sone (sret (do_ op_mod ok_mod (do_ op_fdivA ok_divA (dv 4) di) (dv 1))))))))
/-! #### _law_fraction -/
abbrev s__law_fraction : Stmt := topS 9
theorem sc__law_fraction : FnScope ["_law_p", "_law_q", "_law_one", "_law_other"] ["_law_p", "_law_q"] (defScope s__law_fraction) := ⟨rfl, rfl, rfl, by decide +kernel, rfl, by decide +kernel, by decide +kernel⟩
def b__law_fraction : DS := (sSeq (sPar 2 3 (dB gAbs (aCons (dVar 0) aNil)) (dB gAbs (aCons (dVar 1) aNil)))
  (sSeq (sWhile (dTst (dOp gGt (dVar 3) (dC (.int 0))))
  (sPar 2 3 (dVar 3) (dOp gMod (dVar 2) (dVar 3))) bigF)
  (sSeq (sIf (dTst (dOp gLt (dVar 1) (dC (.int 0))))
  (sSet 2 (dOp gSub (dC (.int 0)) (dVar 2)))
  sNil)
  (sRet (dTup (aCons (dOp gDivA (dVar 0) (dVar 2)) (aCons (dOp gDivA (dVar 1) (dVar 2)) aNil)))))))
def m__law_fraction : List PyData → Option PyData := fnP ["_law_p", "_law_q", "_law_one", "_law_other"] 2 b__law_fraction
theorem ok__law_fraction (F : Std K mg "_law_fraction" s__law_fraction ["_law_p", "_law_q"]) (T : Tx K mg)  : Cal P w K mg base 1 "_law_fraction" ["_law_p", "_law_q"] (spP K m__law_fraction) := by
  refine calP F sc__law_fraction (fun f cdv A outer s H E Z hr => ?_)
  unfold b__law_fraction
  exact (scons (spar (i := 2) (j := 3) rfl sc__law_fraction.nd rfl rfl (by decide) rfl rfl (dcb call_abs ok_abs (by rfl) T.b_abs (by decide +kernel) (dac (dv 0) danil)) (dcb call_abs ok_abs (by rfl) T.b_abs (by decide +kernel) (dac (dv 1) danil)) (by rfl))
  (scons (swhile bigF PassesOwn.never (dtcmp op_gt ok_gt (dv 3) di (nomark _))
  (sone (spar (i := 2) (j := 3) rfl sc__law_fraction.nd rfl rfl (by decide) rfl rfl (dv 3) (do_ op_mod ok_mod (dv 2) (dv 3)) (by rfl))))
  (scons (sif (dtcmp op_ltA ok_lt (dv 1) di (nomark _))
  (sone (sset (i := 2) sc__law_fraction.nd rfl (by first | exact .inl rfl | exact .inr rfl) (do_ op_sub ok_sub di (dv 2))))
  snil)
  (sone (sret (dtup (dac (do_ op_fdivA ok_divA (dv 0) (dv 2)) (dac (do_ op_fdivA ok_divA (dv 1) (dv 2)) danil))))))))
/-! #### _law_whole -/
abbrev s__law_whole : Stmt := topS 12
theorem sc__law_whole : FnScope ["_law_thing"] ["_law_thing"] (defScope s__law_whole) := ⟨rfl, rfl, rfl, by decide +kernel, rfl, by decide +kernel, by decide +kernel⟩
def b__law_whole : DS := (sRet (dAnd (dUn (gIsi "int") (dVar 0)) (dNot (dUn (gIsi "bool") (dVar 0)))))
def m__law_whole : List PyData → Option PyData := fnP ["_law_thing"] 1 b__law_whole
theorem ok__law_whole (F : Std K mg "_law_whole" s__law_whole ["_law_thing"]) (T : Tx K mg)  : Cal P w K mg base 1 "_law_whole" ["_law_thing"] (spP K m__law_whole) := by
  refine calP F sc__law_whole (fun f cdv A outer s H E Z hr => ?_)
  unfold b__law_whole
  exact (sone (sret (dand (disi isi_int (by rfl) T.b_isinstance (by decide +kernel) (by rfl) T.b_int (by decide +kernel) (dv 0)) (pe_one (dnot (disi isi_bool (by rfl) T.b_isinstance (by decide +kernel) (by rfl) T.b_bool (by decide +kernel) (dv 0)))))))
/-! #### _law_is_fraction -/
abbrev s__law_is_fraction : Stmt := topS 13
theorem sc__law_is_fraction : FnScope ["_law_thing"] ["_law_thing"] (defScope s__law_is_fraction) := ⟨rfl, rfl, rfl, by decide +kernel, rfl, by decide +kernel, by decide +kernel⟩
def b__law_is_fraction : DS := (sSeq (sIf (dOrT (dNotT (dTst (dUn (gIsi "tuple") (dVar 0)))) (dOrT (dTst (dOp gNe (dB gLen (aCons (dVar 0) aNil)) (dC (.int 2)))) (dOrT (dNotT (dTst (dCall m__law_whole (aCons (dOp gIx (dVar 0) (dC (.int 0))) aNil)))) (dNotT (dTst (dCall m__law_whole (aCons (dOp gIx (dVar 0) (dC (.int 1))) aNil)))))))
  (sRet (dC (.bool false)))
  sNil)
  (sRet (dAnd (dOp gGt (dOp gIx (dVar 0) (dC (.int 1))) (dC (.int 0))) (dOp gEq (dCall m__law_fraction (aCons (dOp gIx (dVar 0) (dC (.int 0))) (aCons (dOp gIx (dVar 0) (dC (.int 1))) aNil))) (dVar 0)))))
def m__law_is_fraction : List PyData → Option PyData := fnP ["_law_thing"] 1 b__law_is_fraction
theorem ok__law_is_fraction (F : Std K mg "_law_is_fraction" s__law_is_fraction ["_law_thing"]) (T : Tx K mg) (c__law_whole : Cal P w K mg base 1 "_law_whole" ["_law_thing"] (spP K m__law_whole)) (c__law_fraction : Cal P w K mg base 1 "_law_fraction" ["_law_p", "_law_q"] (spP K m__law_fraction)) : Cal P w K mg base 2 "_law_is_fraction" ["_law_thing"] (spP K m__law_is_fraction) := by
  refine calP F sc__law_is_fraction (fun f cdv A outer s H E Z hr => ?_)
  unfold b__law_is_fraction
  exact (scons (sif (PW.pt (dtor (dtnot (dt (disi isi_tuple (by rfl) T.b_isinstance (by decide +kernel) (by rfl) T.b_tuple (by decide +kernel) (dv 0)))) (dtor (dtcmp (op_neA hr.units) ok_ne (dcb call_len ok_len (by rfl) T.b_len boot_len (dac (dv 0) danil)) di (nomark _)) (dtor (dtnot (dt (dcl c__law_whole hr (by decide) (by rfl) (dac (dix ix_seq ok_ix (dv 0) di) danil)))) (pw_or1 (dtnot (dt (dcl c__law_whole hr (by decide) (by rfl) (dac (dix ix_seq ok_ix (dv 0) di) danil)))))))))
  (sone (sret db))
  snil)
  (sone (sret (dand (dcmp op_gt ok_gt (dix ix_seq ok_ix (dv 0) di) di (nomark _)) (pe_one (dcmp (op_eqA hr.units) ok_eq (dcl c__law_fraction hr (by decide) (by rfl) (dac (dix ix_seq ok_ix (dv 0) di) (dac (dix ix_seq ok_ix (dv 0) di) danil))) (dv 0) (nomark _)))))))
/-! #### _law_number -/
abbrev s__law_number : Stmt := topS 14
theorem sc__law_number : FnScope ["_law_pot_here", "_law_some"] ["_law_pot_here"] (defScope s__law_number) := ⟨rfl, rfl, rfl, by decide +kernel, rfl, by decide +kernel, by decide +kernel⟩
def b__law_number : DS := (sSeq (sSet 1 (dL (fLst (aCons (dOp gSub (dCallM m__law_take 0 (aCons (dC (.int 13)) aNil)) (dC (.int 6))) (aCons (dOp gSub (dCallM m__law_take 0 (aCons (dC (.int 2001)) aNil)) (dC (.int 1000))) (aCons (dCallM m__law_take 0 (aCons (dOp gPow (dC (.int 10)) (dC (.int 18))) aNil)) (aCons (dOp gSub (dC (.int 0)) (dCallM m__law_take 0 (aCons (dOp gPow (dC (.int 10)) (dC (.int 18))) aNil))) aNil)))))))
  (sRet (dOp gIx (dVar 1) (dCallM m__law_take 0 (aCons (dC (.int 4)) aNil)))))
def m__law_number : List PyData → List PyData → Option (PyData × List PyData) := fnM ["_law_pot_here", "_law_some"] 1 b__law_number
theorem ok__law_number (F : Std K mg "_law_number" s__law_number ["_law_pot_here"]) (T : Tx K mg) (c__law_take : Cal P w K mg base 1 "_law_take" ["_law_pot_here", "_law_many"] (spM K m__law_take)) : Cal P w K mg base 2 "_law_number" ["_law_pot_here"] (spM K m__law_number) := by
  refine calM F sc__law_number (fun f cdv A outer s H E Z hr => ?_)
  unfold b__law_number
  exact (scons (sset (i := 1) sc__law_number.nd rfl (by first | exact .inl rfl | exact .inr rfl) (dfr (flst (dac (do_ op_sub ok_sub (dclM 0 c__law_take hr (by decide) (by rfl) (pv 0) (dac di danil)) di) (dac (do_ op_sub ok_sub (dclM 0 c__law_take hr (by decide) (by rfl) (pv 0) (dac di danil)) di) (dac (dclM 0 c__law_take hr (by decide) (by rfl) (pv 0) (dac (do_ op_powW ok_pow di di) danil)) (dac (do_ op_sub ok_sub di (dclM 0 c__law_take hr (by decide) (by rfl) (pv 0) (dac (do_ op_powW ok_pow di di) danil))) danil)))))))
  (sone (sret (dix ix_seq ok_ix (dv 1) (dclM 0 c__law_take hr (by decide) (by rfl) (pv 0) (dac di danil))))))
/-! #### _law_odd -/
abbrev s__law_odd : Stmt := topS 15
theorem sc__law_odd : FnScope ["_law_pot_here", "_law_told", "_law_p", "_law_q", "_law_by", "_law_some"] ["_law_pot_here", "_law_told"] (defScope s__law_odd) := ⟨rfl, rfl, rfl, by decide +kernel, rfl, by decide +kernel, by decide +kernel⟩
def b__law_odd : DS := (sSeq (sAsg (dVar 1) (tgT [(tgN 2), (tgN 3)]))
  (sSeq (sSet 4 (dOp gIx (dL (fLst (aCons (dC (.int 2)) (aCons (dC (.int 3)) (aCons (dC (.int 5)) (aCons (dC (.int 7)) (aCons (dC (.int 101)) (aCons (dOp gAdd (dOp gPow (dC (.int 10)) (dC (.int 9))) (dC (.int 7))) aNil)))))))) (dCallM m__law_take 0 (aCons (dC (.int 6)) aNil))))
  (sSeq (sSet 5 (dL (fLst (aCons (dTup (aCons (dOp gMul (dVar 4) (dVar 2)) (aCons (dOp gMul (dVar 4) (dVar 3)) aNil))) (aCons (dTup (aCons (dVar 2) (aCons (dOp gSub (dC (.int 0)) (dVar 3)) aNil))) (aCons (dTup (aCons (dVar 2) (aCons (dC (.int 0)) aNil))) (aCons (dTup (aCons (dOp gSub (dC (.int 0)) (dVar 2)) (aCons (dVar 3) aNil))) (aCons (dTup (aCons (dVar 3) (aCons (dVar 2) aNil))) (aCons (dTup (aCons (dOp gAdd (dVar 2) (dVar 3)) (aCons (dVar 3) aNil))) (aCons (dTup (aCons (dVar 2) (aCons (dVar 3) (aCons (dC (.int 1)) aNil)))) (aCons (dTup (aCons (dVar 2) aNil)) (aCons (dL (fLst (aCons (dVar 2) (aCons (dVar 3) aNil)))) (aCons (dC .none) (aCons (dVar 2) aNil))))))))))))))
  (sSeq (sSet 5 (dOp gAdd (dVar 5) (dL (fLst (aCons (dTup (aCons (dOp gEq (dVar 2) (dC (.int 1))) (aCons (dVar 3) aNil))) (aCons (dTup (aCons (dVar 2) (aCons (dOp gEq (dVar 3) (dC (.int 1))) aNil))) (aCons (dTup (aCons (dVar 2) (aCons (dC .none) aNil))) (aCons (dTup (aCons (dC (.str "1")) (aCons (dVar 3) aNil))) (aCons (dTup (aCons (dVar 2) (aCons (dTup (aCons (dVar 3) aNil)) aNil))) (aCons (dTup aNil) (aCons (dC (.dict [])) (aCons (dC (.str "1/2")) (aCons (dTup (aCons (dC (.int 0)) (aCons (dVar 4) aNil))) (aCons (dTup (aCons (dC (.int 0)) (aCons (dC (.int 1)) aNil))) (aCons (dC (.bool true)) aNil)))))))))))))))
  (sRet (dOp gIx (dVar 5) (dCallM m__law_take 0 (aCons (dC (.int 22)) aNil))))))))
def m__law_odd : List PyData → List PyData → Option (PyData × List PyData) := fnM ["_law_pot_here", "_law_told", "_law_p", "_law_q", "_law_by", "_law_some"] 2 b__law_odd
theorem ok__law_odd (F : Std K mg "_law_odd" s__law_odd ["_law_pot_here", "_law_told"]) (T : Tx K mg) (c__law_take : Cal P w K mg base 1 "_law_take" ["_law_pot_here", "_law_many"] (spM K m__law_take)) : Cal P w K mg base 2 "_law_odd" ["_law_pot_here", "_law_told"] (spM K m__law_odd) := by
  refine calM F sc__law_odd (fun f cdv A outer s H E Z hr => ?_)
  unfold b__law_odd
  exact (scons (sasg (dv 1) (pg_tup rfl (pgs_cons (pg_name (i := 2) sc__law_odd.nd rfl (by first | exact .inl rfl | exact .inr rfl)) (pgs_cons (pg_name (i := 3) sc__law_odd.nd rfl (by first | exact .inl rfl | exact .inr rfl)) pgs_nil))) (tgt rfl (tgscons tgn (tgscons tgn tgsnil))))
  (scons (sset (i := 4) sc__law_odd.nd rfl (by first | exact .inl rfl | exact .inr rfl) (dix ix_seq ok_ix (dfr (flst (dac di (dac di (dac di (dac di (dac di (dac (do_ op_addA ok_add (do_ op_powW ok_pow di di) di) danil)))))))) (dclM 0 c__law_take hr (by decide) (by rfl) (pv 0) (dac di danil))))
  (scons (sset (i := 5) sc__law_odd.nd rfl (by first | exact .inl rfl | exact .inr rfl) (dfr (flst (dac (dtup (dac (do_ op_mulW ok_mul (dv 4) (dv 2)) (dac (do_ op_mulW ok_mul (dv 4) (dv 3)) danil))) (dac (dtup (dac (dv 2) (dac (do_ op_sub ok_sub di (dv 3)) danil))) (dac (dtup (dac (dv 2) (dac di danil))) (dac (dtup (dac (do_ op_sub ok_sub di (dv 2)) (dac (dv 3) danil))) (dac (dtup (dac (dv 3) (dac (dv 2) danil))) (dac (dtup (dac (do_ op_addA ok_add (dv 2) (dv 3)) (dac (dv 3) danil))) (dac (dtup (dac (dv 2) (dac (dv 3) (dac di danil)))) (dac (dtup (dac (dv 2) danil)) (dac (dfr (flst (dac (dv 2) (dac (dv 3) danil)))) (dac dn (dac (dv 2) danil))))))))))))))
  (scons (sset (i := 5) sc__law_odd.nd rfl (by first | exact .inl rfl | exact .inr rfl) (do_ op_addA ok_add (dv 5) (dfr (flst (dac (dtup (dac (dcmp (op_eqA hr.units) ok_eq (dv 2) di (nomark _)) (dac (dv 3) danil))) (dac (dtup (dac (dv 2) (dac (dcmp (op_eqA hr.units) ok_eq (dv 3) di (nomark _)) danil))) (dac (dtup (dac (dv 2) (dac dn danil))) (dac (dtup (dac ds (dac (dv 3) danil))) (dac (dtup (dac (dv 2) (dac (dtup (dac (dv 3) danil)) danil))) (dac (dtup danil) (dac ddct (dac ds (dac (dtup (dac di (dac (dv 4) danil))) (dac (dtup (dac di (dac di danil))) (dac db danil)))))))))))))))
  (sone (sret (dix ix_seq ok_ix (dv 5) (dclM 0 c__law_take hr (by decide) (by rfl) (pv 0) (dac di danil)))))))))
/-! #### law -/
abbrev s_law : Stmt := topS 16
theorem sc_law : FnScope ["_law_script", "_law_k", "_law_pot_here", "_law_turn", "_law_p", "_law_q", "_law_by", "_law_told", "_law_thing", "_law_found"] ["_law_script"] (defScope s_law) := ⟨rfl, rfl, rfl, by decide +kernel, rfl, by decide +kernel, by decide +kernel⟩
def b_law : DS := (sSeq (sFor (itR1 (dB gMax2 (aCons (dC (.int 1)) (aCons (dB gMin2 (aCons (dC (.int 20)) (aCons (dB gLen (aCons (dVar 0) aNil)) aNil))) aNil)))) (tgN 1)
  (sSeq (sOwn 2 (fCall m__law_pot (aCons (dVar 0) (aCons (dVar 1) aNil))))
  (sFor (itR1 (dC (.int 6))) (tgN 3)
  (sSeq (sPar 4 5 (dCallM m__law_number 2 aNil) (dCallM m__law_number 2 aNil))
  (sSeq (sIf (dTst (dOp gEq (dVar 5) (dC (.int 0))))
  (sSet 5 (dOp gAdd (dC (.int 1)) (dCallM m__law_take 2 (aCons (dC (.int 9)) aNil))))
  sNil)
  (sSeq (sSet 6 (dOp gAdd (dC (.int 1)) (dCallM m__law_take 2 (aCons (dC (.int 30)) aNil))))
  (sSeq (sSet 7 (dCall m_fraction (aCons (dOp gMul (dVar 4) (dVar 6)) (aCons (dOp gMul (dVar 5) (dVar 6)) aNil))))
  (sSeq (sIf (dOrT (dTst (dOp gNe (dB gRepr (aCons (dVar 7) aNil)) (dB gRepr (aCons (dCall m__law_fraction (aCons (dVar 4) (aCons (dVar 5) aNil))) aNil)))) (dTst (dOp (gIs true) (dCall m_is_fraction (aCons (dVar 7) aNil)) (dC (.bool true)))))
  (sRet (dC (.bool false)))
  sNil)
  (sSeq (sFgt 3) (sFor (itA (dOp gAdd (dL (fLc (itR1 (dC (.int 4))) 3 tYesD (dCallM m__law_odd 2 (aCons (dVar 7) aNil)))) (dL (fLst (aCons (dTup (aCons (dVar 4) (aCons (dVar 5) aNil))) aNil))))) (tgN 8)
  (sSeq (sSet 9 (dCall m_is_fraction (aCons (dVar 8) aNil)))
  (sIf (dOrT (dNotT (dTst (dUn (gIsi "bool") (dVar 9)))) (dTst (dOp gNe (dVar 9) (dCall m__law_is_fraction (aCons (dVar 8) aNil)))))
  (sRet (dC (.bool false)))
  sNil))))))))))))
  (sRet (dAnd (dOp gEq (dCall m_fraction (aCons (dC (.int 0)) (aCons (dUn gNeg (dC (.int 7))) aNil))) (dTup (aCons (dC (.int 0)) (aCons (dC (.int 1)) aNil)))) (dOp gEq (dCall m_fraction (aCons (dUn gNeg (dC (.int 6))) (aCons (dUn gNeg (dC (.int 4))) aNil))) (dTup (aCons (dC (.int 3)) (aCons (dC (.int 2)) aNil)))))))
def m_law : List PyData → Option PyData := fnP ["_law_script", "_law_k", "_law_pot_here", "_law_turn", "_law_p", "_law_q", "_law_by", "_law_told", "_law_thing", "_law_found"] 1 b_law
theorem ok_law (T : Tx K mg) (c__law_pot : Cal P w K mg base 1 "_law_pot" ["_law_script", "_law_k"] (spF K m__law_pot)) (c__law_number : Cal P w K mg base 2 "_law_number" ["_law_pot_here"] (spM K m__law_number)) (c__law_take : Cal P w K mg base 1 "_law_take" ["_law_pot_here", "_law_many"] (spM K m__law_take)) (c_fraction : Cal P w K mg base 1 "fraction" ["p", "q"] (spP K m_fraction)) (c_is_fraction : Cal P w K mg base 2 "is_fraction" ["thing"] (spP K m_is_fraction)) (c__law_fraction : Cal P w K mg base 1 "_law_fraction" ["_law_p", "_law_q"] (spP K m__law_fraction)) (c__law_odd : Cal P w K mg base 2 "_law_odd" ["_law_pot_here", "_law_told"] (spM K m__law_odd)) (c__law_is_fraction : Cal P w K mg base 2 "_law_is_fraction" ["_law_thing"] (spP K m__law_is_fraction)) (f : Addr) (cdv : Value) (A : Around) (outer : List Env) (s : Shared) (H : Hp) (E : XK) (Z : Par) (hr : Room 3 (A.deeper (envOfC "law" (defScope s_law) s.heap.objs.size f cdv))) (cg : CG (cxOf CX0 P w K mg base ["_law_script", "_law_k", "_law_pot_here", "_law_turn", "_law_p", "_law_q", "_law_by", "_law_told", "_law_thing", "_law_found"] "law" (defScope s_law) f cdv A outer s H E).nox) : PSs (cxOf CX0 P w K mg base ["_law_script", "_law_k", "_law_pot_here", "_law_turn", "_law_p", "_law_q", "_law_by", "_law_told", "_law_thing", "_law_found"] "law" (defScope s_law) f cdv A outer s H E).nox (defBody s_law) (lfS K Z b_law) := by
  unfold b_law
  exact (scons (sfor PassesOwn.never rfl (pir1 (by rfl) T.b_range (dcb (call_max2 rfl) ok_max2 (by rfl) T.b_max (by decide +kernel) (dac di (dac (dcb (call_min2 rfl) ok_min2 (by rfl) T.b_min (by decide +kernel) (dac di (dac (dcb call_len ok_len (by rfl) T.b_len boot_len (dac (dv 0) danil)) danil))) danil)))) (pg_name (i := 1) sc_law.nd rfl (by first | exact .inl rfl | exact .inr rfl)) tgn
  (scons (sown (i := 2) sc_law.nd rfl (by first | exact .inl rfl | exact .inr rfl) (fcl c__law_pot hr (by decide) (by rfl) (dac (dv 0) (dac (dv 1) danil))))
  (sone (sfor PassesOwn.never rfl (pir1 (by rfl) T.b_range di) (pg_name (i := 3) sc_law.nd rfl (by first | exact .inl rfl | exact .inr rfl)) tgn
  (scons (spar (i := 4) (j := 5) rfl sc_law.nd rfl rfl (by decide) rfl rfl (dclM 2 c__law_number hr (by decide) (by rfl) (pv 2) danil) (dclM 2 c__law_number hr (by decide) (by rfl) (pv 2) danil) (by rfl))
  (scons (sif (dtcmp (op_eqA hr.units) ok_eq (dv 5) di (nomark _))
  (sone (sset (i := 5) sc_law.nd rfl (by first | exact .inl rfl | exact .inr rfl) (do_ op_addA ok_add di (dclM 2 c__law_take hr (by decide) (by rfl) (pv 2) (dac di danil)))))
  snil)
  (scons (sset (i := 6) sc_law.nd rfl (by first | exact .inl rfl | exact .inr rfl) (do_ op_addA ok_add di (dclM 2 c__law_take hr (by decide) (by rfl) (pv 2) (dac di danil))))
  (scons (sset (i := 7) sc_law.nd rfl (by first | exact .inl rfl | exact .inr rfl) (dcl c_fraction hr (by decide) (by rfl) (dac (do_ op_mulW ok_mul (dv 4) (dv 6)) (dac (do_ op_mulW ok_mul (dv 5) (dv 6)) danil))))
  (scons (sif (PW.pt (dtor (dtcmp (op_neA hr.units) ok_ne (dcb (call_repr cg) ok_repr (by rfl) T.b_repr (by decide +kernel) (dac (dv 7) danil)) (dcb (call_repr cg) ok_repr (by rfl) T.b_repr (by decide +kernel) (dac (dcl c__law_fraction hr (by decide) (by rfl) (dac (dv 4) (dac (dv 5) danil))) danil)) (nomark _)) (pw_or1 (dtcmp op_isnot_bl ok_isnot_bl (dcl c_is_fraction hr (by decide) (by rfl) (dac (dv 7) danil)) db (nomark _)))))
  (sone (sret db))
  snil)
  (sfgt (j := 3) (sone (sfor PassesOwn.never rfl (pia (do_ op_addA ok_add (dfr (flc rfl sc_law.nd (pir1 (by rfl) T.b_range di) (blkOk_by (own := [("_law_turn", 3)]) (N := ["_law_script", "_law_k", "_law_pot_here", "_law_turn", "_law_p", "_law_q", "_law_by", "_law_told", "_law_thing", "_law_found"]) (sc := defScope s_law) (by decide +kernel)) (fun _ _ _ _ _ => pg_name (i := 3) sc_law.nd rfl (Or.inl rfl)) (fun _ _ _ _ _ _ => tynil) (fun _ _ _ _ _ _ => (dclM 2 c__law_odd hr (by decide) (by rfl) (pv 2) (dac (dv 7) danil))))) (dfr (flst (dac (dtup (dac (dv 4) (dac (dv 5) danil))) danil))))) (pg_name (i := 8) sc_law.nd rfl (by first | exact .inl rfl | exact .inr rfl)) tgn
  (scons (sset (i := 9) sc_law.nd rfl (by first | exact .inl rfl | exact .inr rfl) (dcl c_is_fraction hr (by decide) (by rfl) (dac (dv 8) danil)))
  (sone (sif (PW.pt (dtor (dtnot (dt (disi isi_bool (by rfl) T.b_isinstance (by decide +kernel) (by rfl) T.b_bool (by decide +kernel) (dv 9)))) (pw_or1 (dtcmp (op_neA hr.units) ok_ne (dv 9) (dcl c__law_is_fraction hr (by decide) (by rfl) (dac (dv 8) danil)) (nomark _)))))
  (sone (sret db))
  snil)))))))))))))))
  (sone (sret (dand (dcmp (op_eqA hr.units) ok_eq (dcl c_fraction hr (by decide) (by rfl) (dac di (dac (du un_neg ok_neg di) danil))) (dtup (dac di (dac di danil))) (nomark _)) (pe_one (dcmp (op_eqA hr.units) ok_eq (dcl c_fraction hr (by decide) (by rfl) (dac (du un_neg ok_neg di) (dac (du un_neg ok_neg di) danil))) (dtup (dac di (dac di danil))) (nomark _)))))))
end
end K57

namespace K57
open PySem PySem.Spec PyProof.Rows L2 Dl
/-- a pot of numbers after at most n takings -/
def Pot (n : Nat) (pd : List PyData) : Prop := ∃ a b c : Int, pd = [.int a, .int b, .int c] ∧ 0 ≤ a ∧ a < 10 ^ 600 ∧ 0 ≤ b ∧ b < 2 ^ 61 ∧ 0 ≤ c ∧ c ≤ n
theorem Pot.mono {n m : Nat} {pd : List PyData} (h : Pot n pd) (e : n ≤ m) : Pot m pd := by
  obtain ⟨a, b, c, e1, h1, h2, h3, h4, h5, h6⟩ := h
  exact ⟨a, b, c, e1, h1, h2, h3, h4, h5, by omega⟩
theorem take_ok {n : Nat} {pd : List PyData} {m : Int} (h : Pot n pd) (hn : n < 1000000) (hm : 1 ≤ m) (hM : m ≤ 2 ^ 60) :
    Gd (m__law_take pd [.int m]) fun q => ∃ r : Int, q.1 = .int r ∧ 0 ≤ r ∧ r < m ∧ Pot (n + 1) q.2 := by
  obtain ⟨a, b, c, rfl, h1, h2, h3, h4, h5, h6⟩ := h
  unfold m__law_take
  refine m_fnM rfl ?_
  unfold b__law_take
  repeat (first | with_reducible refine s_seq ?_ | with_reducible refine s_if ?_ | with_reducible refine s_set ?_ | with_reducible refine s_setIx ?_ | with_reducible refine s_ret ?_ | with_reducible refine s_nil ?_ | with_reducible refine s_own ?_ | with_reducible refine s_par ?_ | with_reducible refine t_tst ?_ | with_reducible refine t_and ?_ | with_reducible refine t_or ?_ | with_reducible refine t_not ?_ | with_reducible refine t_yes ?_ | with_reducible refine e_op ?_ | with_reducible refine e_un ?_ | with_reducible refine e_chain ?_ | with_reducible refine e_b ?_ | with_reducible refine e_c ?_ | with_reducible refine e_l ?_ | with_reducible refine e_tup ?_ | with_reducible refine e_call ?_ | with_reducible refine e_and ?_ | with_reducible refine e_or ?_ | with_reducible refine e_not ?_ | with_reducible refine e_if ?_ | with_reducible refine e_sl ?_ | with_reducible refine o_n ?_ | with_reducible refine o_s ?_ | with_reducible refine a_nil ?_ | with_reducible refine a_cons ?_ | with_reducible refine f_lst ?_ | with_reducible refine f_call ?_ | with_reducible refine f_itA ?_ | with_reducible refine f_r1 ?_ | with_reducible refine r_seq ?_ | with_reducible refine n_add ?_ | with_reducible refine n_sub ?_ | with_reducible refine n_gt ?_ | with_reducible refine n_ge ?_ | with_reducible refine n_lt ?_ | with_reducible refine n_le ?_ | with_reducible refine e_var (by with_unfolding_all rfl) ?_ | with_reducible refine e_ixc (by with_unfolding_all rfl) ?_ | with_reducible refine e_callM (by with_unfolding_all rfl) ?_ | with_reducible refine s_frz (by with_unfolding_all rfl) ?_ | with_reducible refine s_app (by with_unfolding_all rfl) ?_ | refine Or.inl ⟨by first | with_reducible rfl | with_reducible exact Bool.not_false, ?_⟩ | refine Or.inr ⟨by first | with_reducible rfl | with_reducible exact Bool.not_true, ?_⟩ | refine Exists.intro _ (Exists.intro _ ⟨rfl, rfl, gd rfl ?_⟩) | refine Exists.intro _ ⟨rfl, ?_⟩)
  by_cases pos : 0 < a
  · refine .inl ⟨decide_eq_true pos, ?_⟩
    repeat (first | with_reducible refine s_seq ?_ | with_reducible refine s_if ?_ | with_reducible refine s_set ?_ | with_reducible refine s_setIx ?_ | with_reducible refine s_ret ?_ | with_reducible refine s_nil ?_ | with_reducible refine s_own ?_ | with_reducible refine s_par ?_ | with_reducible refine t_tst ?_ | with_reducible refine t_and ?_ | with_reducible refine t_or ?_ | with_reducible refine t_not ?_ | with_reducible refine t_yes ?_ | with_reducible refine e_op ?_ | with_reducible refine e_un ?_ | with_reducible refine e_chain ?_ | with_reducible refine e_b ?_ | with_reducible refine e_c ?_ | with_reducible refine e_l ?_ | with_reducible refine e_tup ?_ | with_reducible refine e_call ?_ | with_reducible refine e_and ?_ | with_reducible refine e_or ?_ | with_reducible refine e_not ?_ | with_reducible refine e_if ?_ | with_reducible refine e_sl ?_ | with_reducible refine o_n ?_ | with_reducible refine o_s ?_ | with_reducible refine a_nil ?_ | with_reducible refine a_cons ?_ | with_reducible refine f_lst ?_ | with_reducible refine f_call ?_ | with_reducible refine f_itA ?_ | with_reducible refine f_r1 ?_ | with_reducible refine r_seq ?_ | with_reducible refine n_add ?_ | with_reducible refine n_sub ?_ | with_reducible refine n_gt ?_ | with_reducible refine n_ge ?_ | with_reducible refine n_lt ?_ | with_reducible refine n_le ?_ | with_reducible refine e_var (by with_unfolding_all rfl) ?_ | with_reducible refine e_ixc (by with_unfolding_all rfl) ?_ | with_reducible refine e_callM (by with_unfolding_all rfl) ?_ | with_reducible refine s_frz (by with_unfolding_all rfl) ?_ | with_reducible refine s_app (by with_unfolding_all rfl) ?_ | refine Or.inl ⟨by first | with_reducible rfl | with_reducible exact Bool.not_false, ?_⟩ | refine Or.inr ⟨by first | with_reducible rfl | with_reducible exact Bool.not_true, ?_⟩ | refine Exists.intro _ (Exists.intro _ ⟨rfl, rfl, gd rfl ?_⟩) | refine Exists.intro _ ⟨rfl, ?_⟩)
    refine n_mod (by omega) fun l1 l2 => ?_
    repeat (first | with_reducible refine s_seq ?_ | with_reducible refine s_if ?_ | with_reducible refine s_set ?_ | with_reducible refine s_setIx ?_ | with_reducible refine s_ret ?_ | with_reducible refine s_nil ?_ | with_reducible refine s_own ?_ | with_reducible refine s_par ?_ | with_reducible refine t_tst ?_ | with_reducible refine t_and ?_ | with_reducible refine t_or ?_ | with_reducible refine t_not ?_ | with_reducible refine t_yes ?_ | with_reducible refine e_op ?_ | with_reducible refine e_un ?_ | with_reducible refine e_chain ?_ | with_reducible refine e_b ?_ | with_reducible refine e_c ?_ | with_reducible refine e_l ?_ | with_reducible refine e_tup ?_ | with_reducible refine e_call ?_ | with_reducible refine e_and ?_ | with_reducible refine e_or ?_ | with_reducible refine e_not ?_ | with_reducible refine e_if ?_ | with_reducible refine e_sl ?_ | with_reducible refine o_n ?_ | with_reducible refine o_s ?_ | with_reducible refine a_nil ?_ | with_reducible refine a_cons ?_ | with_reducible refine f_lst ?_ | with_reducible refine f_call ?_ | with_reducible refine f_itA ?_ | with_reducible refine f_r1 ?_ | with_reducible refine r_seq ?_ | with_reducible refine n_add ?_ | with_reducible refine n_sub ?_ | with_reducible refine n_gt ?_ | with_reducible refine n_ge ?_ | with_reducible refine n_lt ?_ | with_reducible refine n_le ?_ | with_reducible refine e_var (by with_unfolding_all rfl) ?_ | with_reducible refine e_ixc (by with_unfolding_all rfl) ?_ | with_reducible refine e_callM (by with_unfolding_all rfl) ?_ | with_reducible refine s_frz (by with_unfolding_all rfl) ?_ | with_reducible refine s_app (by with_unfolding_all rfl) ?_ | refine Or.inl ⟨by first | with_reducible rfl | with_reducible exact Bool.not_false, ?_⟩ | refine Or.inr ⟨by first | with_reducible rfl | with_reducible exact Bool.not_true, ?_⟩ | refine Exists.intro _ (Exists.intro _ ⟨rfl, rfl, gd rfl ?_⟩) | refine Exists.intro _ ⟨rfl, ?_⟩)
    refine n_divA (by omega) (by omega) ?_
    repeat (first | with_reducible refine s_seq ?_ | with_reducible refine s_if ?_ | with_reducible refine s_set ?_ | with_reducible refine s_setIx ?_ | with_reducible refine s_ret ?_ | with_reducible refine s_nil ?_ | with_reducible refine s_own ?_ | with_reducible refine s_par ?_ | with_reducible refine t_tst ?_ | with_reducible refine t_and ?_ | with_reducible refine t_or ?_ | with_reducible refine t_not ?_ | with_reducible refine t_yes ?_ | with_reducible refine e_op ?_ | with_reducible refine e_un ?_ | with_reducible refine e_chain ?_ | with_reducible refine e_b ?_ | with_reducible refine e_c ?_ | with_reducible refine e_l ?_ | with_reducible refine e_tup ?_ | with_reducible refine e_call ?_ | with_reducible refine e_and ?_ | with_reducible refine e_or ?_ | with_reducible refine e_not ?_ | with_reducible refine e_if ?_ | with_reducible refine e_sl ?_ | with_reducible refine o_n ?_ | with_reducible refine o_s ?_ | with_reducible refine a_nil ?_ | with_reducible refine a_cons ?_ | with_reducible refine f_lst ?_ | with_reducible refine f_call ?_ | with_reducible refine f_itA ?_ | with_reducible refine f_r1 ?_ | with_reducible refine r_seq ?_ | with_reducible refine n_add ?_ | with_reducible refine n_sub ?_ | with_reducible refine n_gt ?_ | with_reducible refine n_ge ?_ | with_reducible refine n_lt ?_ | with_reducible refine n_le ?_ | with_reducible refine e_var (by with_unfolding_all rfl) ?_ | with_reducible refine e_ixc (by with_unfolding_all rfl) ?_ | with_reducible refine e_callM (by with_unfolding_all rfl) ?_ | with_reducible refine s_frz (by with_unfolding_all rfl) ?_ | with_reducible refine s_app (by with_unfolding_all rfl) ?_ | refine Or.inl ⟨by first | with_reducible rfl | with_reducible exact Bool.not_false, ?_⟩ | refine Or.inr ⟨by first | with_reducible rfl | with_reducible exact Bool.not_true, ?_⟩ | refine Exists.intro _ (Exists.intro _ ⟨rfl, rfl, gd rfl ?_⟩) | refine Exists.intro _ ⟨rfl, ?_⟩)
    have q0 : 0 ≤ a / m := Int.ediv_nonneg h1 (by omega)
    have q1 : a / m ≤ a := Int.ediv_le_self m h1
    exact ⟨l1, l2, a / m, b, c, rfl, q0, Int.lt_of_le_of_lt q1 h2, h3, h4, h5, by omega⟩
  · refine .inr ⟨decide_eq_false pos, ?_⟩
    repeat (first | with_reducible refine s_seq ?_ | with_reducible refine s_if ?_ | with_reducible refine s_set ?_ | with_reducible refine s_setIx ?_ | with_reducible refine s_ret ?_ | with_reducible refine s_nil ?_ | with_reducible refine s_own ?_ | with_reducible refine s_par ?_ | with_reducible refine t_tst ?_ | with_reducible refine t_and ?_ | with_reducible refine t_or ?_ | with_reducible refine t_not ?_ | with_reducible refine t_yes ?_ | with_reducible refine e_op ?_ | with_reducible refine e_un ?_ | with_reducible refine e_chain ?_ | with_reducible refine e_b ?_ | with_reducible refine e_c ?_ | with_reducible refine e_l ?_ | with_reducible refine e_tup ?_ | with_reducible refine e_call ?_ | with_reducible refine e_and ?_ | with_reducible refine e_or ?_ | with_reducible refine e_not ?_ | with_reducible refine e_if ?_ | with_reducible refine e_sl ?_ | with_reducible refine o_n ?_ | with_reducible refine o_s ?_ | with_reducible refine a_nil ?_ | with_reducible refine a_cons ?_ | with_reducible refine f_lst ?_ | with_reducible refine f_call ?_ | with_reducible refine f_itA ?_ | with_reducible refine f_r1 ?_ | with_reducible refine r_seq ?_ | with_reducible refine n_add ?_ | with_reducible refine n_sub ?_ | with_reducible refine n_gt ?_ | with_reducible refine n_ge ?_ | with_reducible refine n_lt ?_ | with_reducible refine n_le ?_ | with_reducible refine e_var (by with_unfolding_all rfl) ?_ | with_reducible refine e_ixc (by with_unfolding_all rfl) ?_ | with_reducible refine e_callM (by with_unfolding_all rfl) ?_ | with_reducible refine s_frz (by with_unfolding_all rfl) ?_ | with_reducible refine s_app (by with_unfolding_all rfl) ?_ | refine Or.inl ⟨by first | with_reducible rfl | with_reducible exact Bool.not_false, ?_⟩ | refine Or.inr ⟨by first | with_reducible rfl | with_reducible exact Bool.not_true, ?_⟩ | refine Exists.intro _ (Exists.intro _ ⟨rfl, rfl, gd rfl ?_⟩) | refine Exists.intro _ ⟨rfl, ?_⟩)
    have e1 : (1 : Int) ≤ c + 1 ∧ c + 1 ≤ 1000000 := by omega
    refine n_mul 40 (by decide) (by decide) (by omega) (by omega) (by decide) (by decide) ?_
    repeat (first | with_reducible refine s_seq ?_ | with_reducible refine s_if ?_ | with_reducible refine s_set ?_ | with_reducible refine s_setIx ?_ | with_reducible refine s_ret ?_ | with_reducible refine s_nil ?_ | with_reducible refine s_own ?_ | with_reducible refine s_par ?_ | with_reducible refine t_tst ?_ | with_reducible refine t_and ?_ | with_reducible refine t_or ?_ | with_reducible refine t_not ?_ | with_reducible refine t_yes ?_ | with_reducible refine e_op ?_ | with_reducible refine e_un ?_ | with_reducible refine e_chain ?_ | with_reducible refine e_b ?_ | with_reducible refine e_c ?_ | with_reducible refine e_l ?_ | with_reducible refine e_tup ?_ | with_reducible refine e_call ?_ | with_reducible refine e_and ?_ | with_reducible refine e_or ?_ | with_reducible refine e_not ?_ | with_reducible refine e_if ?_ | with_reducible refine e_sl ?_ | with_reducible refine o_n ?_ | with_reducible refine o_s ?_ | with_reducible refine a_nil ?_ | with_reducible refine a_cons ?_ | with_reducible refine f_lst ?_ | with_reducible refine f_call ?_ | with_reducible refine f_itA ?_ | with_reducible refine f_r1 ?_ | with_reducible refine r_seq ?_ | with_reducible refine n_add ?_ | with_reducible refine n_sub ?_ | with_reducible refine n_gt ?_ | with_reducible refine n_ge ?_ | with_reducible refine n_lt ?_ | with_reducible refine n_le ?_ | with_reducible refine e_var (by with_unfolding_all rfl) ?_ | with_reducible refine e_ixc (by with_unfolding_all rfl) ?_ | with_reducible refine e_callM (by with_unfolding_all rfl) ?_ | with_reducible refine s_frz (by with_unfolding_all rfl) ?_ | with_reducible refine s_app (by with_unfolding_all rfl) ?_ | refine Or.inl ⟨by first | with_reducible rfl | with_reducible exact Bool.not_false, ?_⟩ | refine Or.inr ⟨by first | with_reducible rfl | with_reducible exact Bool.not_true, ?_⟩ | refine Exists.intro _ (Exists.intro _ ⟨rfl, rfl, gd rfl ?_⟩) | refine Exists.intro _ ⟨rfl, ?_⟩)
    refine n_pow (b := 3) 62 (by omega) (by omega) (by decide) (by decide) fun p => ?_
    repeat (first | with_reducible refine s_seq ?_ | with_reducible refine s_if ?_ | with_reducible refine s_set ?_ | with_reducible refine s_setIx ?_ | with_reducible refine s_ret ?_ | with_reducible refine s_nil ?_ | with_reducible refine s_own ?_ | with_reducible refine s_par ?_ | with_reducible refine t_tst ?_ | with_reducible refine t_and ?_ | with_reducible refine t_or ?_ | with_reducible refine t_not ?_ | with_reducible refine t_yes ?_ | with_reducible refine e_op ?_ | with_reducible refine e_un ?_ | with_reducible refine e_chain ?_ | with_reducible refine e_b ?_ | with_reducible refine e_c ?_ | with_reducible refine e_l ?_ | with_reducible refine e_tup ?_ | with_reducible refine e_call ?_ | with_reducible refine e_and ?_ | with_reducible refine e_or ?_ | with_reducible refine e_not ?_ | with_reducible refine e_if ?_ | with_reducible refine e_sl ?_ | with_reducible refine o_n ?_ | with_reducible refine o_s ?_ | with_reducible refine a_nil ?_ | with_reducible refine a_cons ?_ | with_reducible refine f_lst ?_ | with_reducible refine f_call ?_ | with_reducible refine f_itA ?_ | with_reducible refine f_r1 ?_ | with_reducible refine r_seq ?_ | with_reducible refine n_add ?_ | with_reducible refine n_sub ?_ | with_reducible refine n_gt ?_ | with_reducible refine n_ge ?_ | with_reducible refine n_lt ?_ | with_reducible refine n_le ?_ | with_reducible refine e_var (by with_unfolding_all rfl) ?_ | with_reducible refine e_ixc (by with_unfolding_all rfl) ?_ | with_reducible refine e_callM (by with_unfolding_all rfl) ?_ | with_reducible refine s_frz (by with_unfolding_all rfl) ?_ | with_reducible refine s_app (by with_unfolding_all rfl) ?_ | refine Or.inl ⟨by first | with_reducible rfl | with_reducible exact Bool.not_false, ?_⟩ | refine Or.inr ⟨by first | with_reducible rfl | with_reducible exact Bool.not_true, ?_⟩ | refine Exists.intro _ (Exists.intro _ ⟨rfl, rfl, gd rfl ?_⟩) | refine Exists.intro _ ⟨rfl, ?_⟩)
    refine n_mod (by decide) fun l1 l2 => ?_
    repeat (first | with_reducible refine s_seq ?_ | with_reducible refine s_if ?_ | with_reducible refine s_set ?_ | with_reducible refine s_setIx ?_ | with_reducible refine s_ret ?_ | with_reducible refine s_nil ?_ | with_reducible refine s_own ?_ | with_reducible refine s_par ?_ | with_reducible refine t_tst ?_ | with_reducible refine t_and ?_ | with_reducible refine t_or ?_ | with_reducible refine t_not ?_ | with_reducible refine t_yes ?_ | with_reducible refine e_op ?_ | with_reducible refine e_un ?_ | with_reducible refine e_chain ?_ | with_reducible refine e_b ?_ | with_reducible refine e_c ?_ | with_reducible refine e_l ?_ | with_reducible refine e_tup ?_ | with_reducible refine e_call ?_ | with_reducible refine e_and ?_ | with_reducible refine e_or ?_ | with_reducible refine e_not ?_ | with_reducible refine e_if ?_ | with_reducible refine e_sl ?_ | with_reducible refine o_n ?_ | with_reducible refine o_s ?_ | with_reducible refine a_nil ?_ | with_reducible refine a_cons ?_ | with_reducible refine f_lst ?_ | with_reducible refine f_call ?_ | with_reducible refine f_itA ?_ | with_reducible refine f_r1 ?_ | with_reducible refine r_seq ?_ | with_reducible refine n_add ?_ | with_reducible refine n_sub ?_ | with_reducible refine n_gt ?_ | with_reducible refine n_ge ?_ | with_reducible refine n_lt ?_ | with_reducible refine n_le ?_ | with_reducible refine e_var (by with_unfolding_all rfl) ?_ | with_reducible refine e_ixc (by with_unfolding_all rfl) ?_ | with_reducible refine e_callM (by with_unfolding_all rfl) ?_ | with_reducible refine s_frz (by with_unfolding_all rfl) ?_ | with_reducible refine s_app (by with_unfolding_all rfl) ?_ | refine Or.inl ⟨by first | with_reducible rfl | with_reducible exact Bool.not_false, ?_⟩ | refine Or.inr ⟨by first | with_reducible rfl | with_reducible exact Bool.not_true, ?_⟩ | refine Exists.intro _ (Exists.intro _ ⟨rfl, rfl, gd rfl ?_⟩) | refine Exists.intro _ ⟨rfl, ?_⟩)
    refine n_mod (by decide) fun l3 l4 => ?_
    repeat (first | with_reducible refine s_seq ?_ | with_reducible refine s_if ?_ | with_reducible refine s_set ?_ | with_reducible refine s_setIx ?_ | with_reducible refine s_ret ?_ | with_reducible refine s_nil ?_ | with_reducible refine s_own ?_ | with_reducible refine s_par ?_ | with_reducible refine t_tst ?_ | with_reducible refine t_and ?_ | with_reducible refine t_or ?_ | with_reducible refine t_not ?_ | with_reducible refine t_yes ?_ | with_reducible refine e_op ?_ | with_reducible refine e_un ?_ | with_reducible refine e_chain ?_ | with_reducible refine e_b ?_ | with_reducible refine e_c ?_ | with_reducible refine e_l ?_ | with_reducible refine e_tup ?_ | with_reducible refine e_call ?_ | with_reducible refine e_and ?_ | with_reducible refine e_or ?_ | with_reducible refine e_not ?_ | with_reducible refine e_if ?_ | with_reducible refine e_sl ?_ | with_reducible refine o_n ?_ | with_reducible refine o_s ?_ | with_reducible refine a_nil ?_ | with_reducible refine a_cons ?_ | with_reducible refine f_lst ?_ | with_reducible refine f_call ?_ | with_reducible refine f_itA ?_ | with_reducible refine f_r1 ?_ | with_reducible refine r_seq ?_ | with_reducible refine n_add ?_ | with_reducible refine n_sub ?_ | with_reducible refine n_gt ?_ | with_reducible refine n_ge ?_ | with_reducible refine n_lt ?_ | with_reducible refine n_le ?_ | with_reducible refine e_var (by with_unfolding_all rfl) ?_ | with_reducible refine e_ixc (by with_unfolding_all rfl) ?_ | with_reducible refine e_callM (by with_unfolding_all rfl) ?_ | with_reducible refine s_frz (by with_unfolding_all rfl) ?_ | with_reducible refine s_app (by with_unfolding_all rfl) ?_ | refine Or.inl ⟨by first | with_reducible rfl | with_reducible exact Bool.not_false, ?_⟩ | refine Or.inr ⟨by first | with_reducible rfl | with_reducible exact Bool.not_true, ?_⟩ | refine Exists.intro _ (Exists.intro _ ⟨rfl, rfl, gd rfl ?_⟩) | refine Exists.intro _ ⟨rfl, ?_⟩)
    refine n_mul 40 (by decide) (by decide) (by omega) (by omega) (by decide) (by decide) ?_
    repeat (first | with_reducible refine s_seq ?_ | with_reducible refine s_if ?_ | with_reducible refine s_set ?_ | with_reducible refine s_setIx ?_ | with_reducible refine s_ret ?_ | with_reducible refine s_nil ?_ | with_reducible refine s_own ?_ | with_reducible refine s_par ?_ | with_reducible refine t_tst ?_ | with_reducible refine t_and ?_ | with_reducible refine t_or ?_ | with_reducible refine t_not ?_ | with_reducible refine t_yes ?_ | with_reducible refine e_op ?_ | with_reducible refine e_un ?_ | with_reducible refine e_chain ?_ | with_reducible refine e_b ?_ | with_reducible refine e_c ?_ | with_reducible refine e_l ?_ | with_reducible refine e_tup ?_ | with_reducible refine e_call ?_ | with_reducible refine e_and ?_ | with_reducible refine e_or ?_ | with_reducible refine e_not ?_ | with_reducible refine e_if ?_ | with_reducible refine e_sl ?_ | with_reducible refine o_n ?_ | with_reducible refine o_s ?_ | with_reducible refine a_nil ?_ | with_reducible refine a_cons ?_ | with_reducible refine f_lst ?_ | with_reducible refine f_call ?_ | with_reducible refine f_itA ?_ | with_reducible refine f_r1 ?_ | with_reducible refine r_seq ?_ | with_reducible refine n_add ?_ | with_reducible refine n_sub ?_ | with_reducible refine n_gt ?_ | with_reducible refine n_ge ?_ | with_reducible refine n_lt ?_ | with_reducible refine n_le ?_ | with_reducible refine e_var (by with_unfolding_all rfl) ?_ | with_reducible refine e_ixc (by with_unfolding_all rfl) ?_ | with_reducible refine e_callM (by with_unfolding_all rfl) ?_ | with_reducible refine s_frz (by with_unfolding_all rfl) ?_ | with_reducible refine s_app (by with_unfolding_all rfl) ?_ | refine Or.inl ⟨by first | with_reducible rfl | with_reducible exact Bool.not_false, ?_⟩ | refine Or.inr ⟨by first | with_reducible rfl | with_reducible exact Bool.not_true, ?_⟩ | refine Exists.intro _ (Exists.intro _ ⟨rfl, rfl, gd rfl ?_⟩) | refine Exists.intro _ ⟨rfl, ?_⟩)
    refine n_pow (b := 5) 63 (by omega) (by omega) (by decide) (by decide) fun p => ?_
    repeat (first | with_reducible refine s_seq ?_ | with_reducible refine s_if ?_ | with_reducible refine s_set ?_ | with_reducible refine s_setIx ?_ | with_reducible refine s_ret ?_ | with_reducible refine s_nil ?_ | with_reducible refine s_own ?_ | with_reducible refine s_par ?_ | with_reducible refine t_tst ?_ | with_reducible refine t_and ?_ | with_reducible refine t_or ?_ | with_reducible refine t_not ?_ | with_reducible refine t_yes ?_ | with_reducible refine e_op ?_ | with_reducible refine e_un ?_ | with_reducible refine e_chain ?_ | with_reducible refine e_b ?_ | with_reducible refine e_c ?_ | with_reducible refine e_l ?_ | with_reducible refine e_tup ?_ | with_reducible refine e_call ?_ | with_reducible refine e_and ?_ | with_reducible refine e_or ?_ | with_reducible refine e_not ?_ | with_reducible refine e_if ?_ | with_reducible refine e_sl ?_ | with_reducible refine o_n ?_ | with_reducible refine o_s ?_ | with_reducible refine a_nil ?_ | with_reducible refine a_cons ?_ | with_reducible refine f_lst ?_ | with_reducible refine f_call ?_ | with_reducible refine f_itA ?_ | with_reducible refine f_r1 ?_ | with_reducible refine r_seq ?_ | with_reducible refine n_add ?_ | with_reducible refine n_sub ?_ | with_reducible refine n_gt ?_ | with_reducible refine n_ge ?_ | with_reducible refine n_lt ?_ | with_reducible refine n_le ?_ | with_reducible refine e_var (by with_unfolding_all rfl) ?_ | with_reducible refine e_ixc (by with_unfolding_all rfl) ?_ | with_reducible refine e_callM (by with_unfolding_all rfl) ?_ | with_reducible refine s_frz (by with_unfolding_all rfl) ?_ | with_reducible refine s_app (by with_unfolding_all rfl) ?_ | refine Or.inl ⟨by first | with_reducible rfl | with_reducible exact Bool.not_false, ?_⟩ | refine Or.inr ⟨by first | with_reducible rfl | with_reducible exact Bool.not_true, ?_⟩ | refine Exists.intro _ (Exists.intro _ ⟨rfl, rfl, gd rfl ?_⟩) | refine Exists.intro _ ⟨rfl, ?_⟩)
    refine n_mod (by decide) fun l1 l2 => ?_
    repeat (first | with_reducible refine s_seq ?_ | with_reducible refine s_if ?_ | with_reducible refine s_set ?_ | with_reducible refine s_setIx ?_ | with_reducible refine s_ret ?_ | with_reducible refine s_nil ?_ | with_reducible refine s_own ?_ | with_reducible refine s_par ?_ | with_reducible refine t_tst ?_ | with_reducible refine t_and ?_ | with_reducible refine t_or ?_ | with_reducible refine t_not ?_ | with_reducible refine t_yes ?_ | with_reducible refine e_op ?_ | with_reducible refine e_un ?_ | with_reducible refine e_chain ?_ | with_reducible refine e_b ?_ | with_reducible refine e_c ?_ | with_reducible refine e_l ?_ | with_reducible refine e_tup ?_ | with_reducible refine e_call ?_ | with_reducible refine e_and ?_ | with_reducible refine e_or ?_ | with_reducible refine e_not ?_ | with_reducible refine e_if ?_ | with_reducible refine e_sl ?_ | with_reducible refine o_n ?_ | with_reducible refine o_s ?_ | with_reducible refine a_nil ?_ | with_reducible refine a_cons ?_ | with_reducible refine f_lst ?_ | with_reducible refine f_call ?_ | with_reducible refine f_itA ?_ | with_reducible refine f_r1 ?_ | with_reducible refine r_seq ?_ | with_reducible refine n_add ?_ | with_reducible refine n_sub ?_ | with_reducible refine n_gt ?_ | with_reducible refine n_ge ?_ | with_reducible refine n_lt ?_ | with_reducible refine n_le ?_ | with_reducible refine e_var (by with_unfolding_all rfl) ?_ | with_reducible refine e_ixc (by with_unfolding_all rfl) ?_ | with_reducible refine e_callM (by with_unfolding_all rfl) ?_ | with_reducible refine s_frz (by with_unfolding_all rfl) ?_ | with_reducible refine s_app (by with_unfolding_all rfl) ?_ | refine Or.inl ⟨by first | with_reducible rfl | with_reducible exact Bool.not_false, ?_⟩ | refine Or.inr ⟨by first | with_reducible rfl | with_reducible exact Bool.not_true, ?_⟩ | refine Exists.intro _ (Exists.intro _ ⟨rfl, rfl, gd rfl ?_⟩) | refine Exists.intro _ ⟨rfl, ?_⟩)
    refine n_divA (by decide) (by decide) ?_
    repeat (first | with_reducible refine s_seq ?_ | with_reducible refine s_if ?_ | with_reducible refine s_set ?_ | with_reducible refine s_setIx ?_ | with_reducible refine s_ret ?_ | with_reducible refine s_nil ?_ | with_reducible refine s_own ?_ | with_reducible refine s_par ?_ | with_reducible refine t_tst ?_ | with_reducible refine t_and ?_ | with_reducible refine t_or ?_ | with_reducible refine t_not ?_ | with_reducible refine t_yes ?_ | with_reducible refine e_op ?_ | with_reducible refine e_un ?_ | with_reducible refine e_chain ?_ | with_reducible refine e_b ?_ | with_reducible refine e_c ?_ | with_reducible refine e_l ?_ | with_reducible refine e_tup ?_ | with_reducible refine e_call ?_ | with_reducible refine e_and ?_ | with_reducible refine e_or ?_ | with_reducible refine e_not ?_ | with_reducible refine e_if ?_ | with_reducible refine e_sl ?_ | with_reducible refine o_n ?_ | with_reducible refine o_s ?_ | with_reducible refine a_nil ?_ | with_reducible refine a_cons ?_ | with_reducible refine f_lst ?_ | with_reducible refine f_call ?_ | with_reducible refine f_itA ?_ | with_reducible refine f_r1 ?_ | with_reducible refine r_seq ?_ | with_reducible refine n_add ?_ | with_reducible refine n_sub ?_ | with_reducible refine n_gt ?_ | with_reducible refine n_ge ?_ | with_reducible refine n_lt ?_ | with_reducible refine n_le ?_ | with_reducible refine e_var (by with_unfolding_all rfl) ?_ | with_reducible refine e_ixc (by with_unfolding_all rfl) ?_ | with_reducible refine e_callM (by with_unfolding_all rfl) ?_ | with_reducible refine s_frz (by with_unfolding_all rfl) ?_ | with_reducible refine s_app (by with_unfolding_all rfl) ?_ | refine Or.inl ⟨by first | with_reducible rfl | with_reducible exact Bool.not_false, ?_⟩ | refine Or.inr ⟨by first | with_reducible rfl | with_reducible exact Bool.not_true, ?_⟩ | refine Exists.intro _ (Exists.intro _ ⟨rfl, rfl, gd rfl ?_⟩) | refine Exists.intro _ ⟨rfl, ?_⟩)
    refine n_mod (by omega) fun l1 l2 => ?_
    repeat (first | with_reducible refine s_seq ?_ | with_reducible refine s_if ?_ | with_reducible refine s_set ?_ | with_reducible refine s_setIx ?_ | with_reducible refine s_ret ?_ | with_reducible refine s_nil ?_ | with_reducible refine s_own ?_ | with_reducible refine s_par ?_ | with_reducible refine t_tst ?_ | with_reducible refine t_and ?_ | with_reducible refine t_or ?_ | with_reducible refine t_not ?_ | with_reducible refine t_yes ?_ | with_reducible refine e_op ?_ | with_reducible refine e_un ?_ | with_reducible refine e_chain ?_ | with_reducible refine e_b ?_ | with_reducible refine e_c ?_ | with_reducible refine e_l ?_ | with_reducible refine e_tup ?_ | with_reducible refine e_call ?_ | with_reducible refine e_and ?_ | with_reducible refine e_or ?_ | with_reducible refine e_not ?_ | with_reducible refine e_if ?_ | with_reducible refine e_sl ?_ | with_reducible refine o_n ?_ | with_reducible refine o_s ?_ | with_reducible refine a_nil ?_ | with_reducible refine a_cons ?_ | with_reducible refine f_lst ?_ | with_reducible refine f_call ?_ | with_reducible refine f_itA ?_ | with_reducible refine f_r1 ?_ | with_reducible refine r_seq ?_ | with_reducible refine n_add ?_ | with_reducible refine n_sub ?_ | with_reducible refine n_gt ?_ | with_reducible refine n_ge ?_ | with_reducible refine n_lt ?_ | with_reducible refine n_le ?_ | with_reducible refine e_var (by with_unfolding_all rfl) ?_ | with_reducible refine e_ixc (by with_unfolding_all rfl) ?_ | with_reducible refine e_callM (by with_unfolding_all rfl) ?_ | with_reducible refine s_frz (by with_unfolding_all rfl) ?_ | with_reducible refine s_app (by with_unfolding_all rfl) ?_ | refine Or.inl ⟨by first | with_reducible rfl | with_reducible exact Bool.not_false, ?_⟩ | refine Or.inr ⟨by first | with_reducible rfl | with_reducible exact Bool.not_true, ?_⟩ | refine Exists.intro _ (Exists.intro _ ⟨rfl, rfl, gd rfl ?_⟩) | refine Exists.intro _ ⟨rfl, ?_⟩)
    exact ⟨l1, l2, a, b, c + 1, rfl, h1, h2, h3, h4, by omega, by omega⟩
theorem atI_map {ns : List Int} {k : Nat} (h : k < ns.length) : atI (ns.map PyData.int) (k : Int) = some (.int ns[k]) := by
  unfold atI
  have e : ixN (ns.map PyData.int).length (k : Int) = some k := by
    unfold ixN
    rw [List.length_map]
    split <;> rename_i c
    · simp [h]
    · omega
  rw [e]
  simp [List.getElem?_map, h]
theorem pot_ok {ns : List Int} {k : Nat} (hk : k < 100) : Gd (m__law_pot [.dict [(.none, .list (ns.map .int))], .int k]) fun pd => Pot 0 pd := by
  unfold m__law_pot
  refine m_fnF rfl ?_
  unfold b__law_pot
  have fin : ∀ x : Int, 0 ≤ x → x < 10 ^ 600 → Ge ((fLst (aCons (dOp gMul (dVar 2) (dB gInt1 (aCons (dOp gGe (dVar 2) (dOp gPow (dC (.int 10)) (dC (.int 18)))) aNil))) (aCons (dOp gMod (dOp gPow (dOp gAdd (dOp gAdd (dOp gMod (dVar 2) (dC (.int 2147483629))) (dOp gMul (dC (.int 7919)) (dVar 1))) (dC (.int 1))) (dC (.int 5))) (dC (.int 2305843009213693951))) (aCons (dC (.int 0)) aNil))))
      [.dat (.dict [(.none, .list (ns.map .int))]), .dat (.int k), .dat (.int x)]) fun d _ => Pot 0 d := by
    intro x h0 h1
    repeat (first | with_reducible refine s_seq ?_ | with_reducible refine s_if ?_ | with_reducible refine s_set ?_ | with_reducible refine s_setIx ?_ | with_reducible refine s_ret ?_ | with_reducible refine s_nil ?_ | with_reducible refine s_own ?_ | with_reducible refine s_par ?_ | with_reducible refine t_tst ?_ | with_reducible refine t_and ?_ | with_reducible refine t_or ?_ | with_reducible refine t_not ?_ | with_reducible refine t_yes ?_ | with_reducible refine e_op ?_ | with_reducible refine e_un ?_ | with_reducible refine e_chain ?_ | with_reducible refine e_b ?_ | with_reducible refine e_c ?_ | with_reducible refine e_l ?_ | with_reducible refine e_tup ?_ | with_reducible refine e_call ?_ | with_reducible refine e_and ?_ | with_reducible refine e_or ?_ | with_reducible refine e_not ?_ | with_reducible refine e_if ?_ | with_reducible refine e_sl ?_ | with_reducible refine o_n ?_ | with_reducible refine o_s ?_ | with_reducible refine a_nil ?_ | with_reducible refine a_cons ?_ | with_reducible refine f_lst ?_ | with_reducible refine f_call ?_ | with_reducible refine f_itA ?_ | with_reducible refine f_r1 ?_ | with_reducible refine r_seq ?_ | with_reducible refine n_add ?_ | with_reducible refine n_sub ?_ | with_reducible refine n_gt ?_ | with_reducible refine n_ge ?_ | with_reducible refine n_lt ?_ | with_reducible refine n_le ?_ | with_reducible refine e_var (by with_unfolding_all rfl) ?_ | with_reducible refine e_ixc (by with_unfolding_all rfl) ?_ | with_reducible refine e_callM (by with_unfolding_all rfl) ?_ | with_reducible refine s_frz (by with_unfolding_all rfl) ?_ | with_reducible refine s_app (by with_unfolding_all rfl) ?_ | refine Or.inl ⟨by first | with_reducible rfl | with_reducible exact Bool.not_false, ?_⟩ | refine Or.inr ⟨by first | with_reducible rfl | with_reducible exact Bool.not_true, ?_⟩ | refine Exists.intro _ (Exists.intro _ ⟨rfl, rfl, gd rfl ?_⟩) | refine Exists.intro _ ⟨rfl, ?_⟩)
    refine n_pow (b := 18) 4 (by decide) (by decide) (by decide) (by decide) fun _ => ?_
    repeat (first | with_reducible refine s_seq ?_ | with_reducible refine s_if ?_ | with_reducible refine s_set ?_ | with_reducible refine s_setIx ?_ | with_reducible refine s_ret ?_ | with_reducible refine s_nil ?_ | with_reducible refine s_own ?_ | with_reducible refine s_par ?_ | with_reducible refine t_tst ?_ | with_reducible refine t_and ?_ | with_reducible refine t_or ?_ | with_reducible refine t_not ?_ | with_reducible refine t_yes ?_ | with_reducible refine e_op ?_ | with_reducible refine e_un ?_ | with_reducible refine e_chain ?_ | with_reducible refine e_b ?_ | with_reducible refine e_c ?_ | with_reducible refine e_l ?_ | with_reducible refine e_tup ?_ | with_reducible refine e_call ?_ | with_reducible refine e_and ?_ | with_reducible refine e_or ?_ | with_reducible refine e_not ?_ | with_reducible refine e_if ?_ | with_reducible refine e_sl ?_ | with_reducible refine o_n ?_ | with_reducible refine o_s ?_ | with_reducible refine a_nil ?_ | with_reducible refine a_cons ?_ | with_reducible refine f_lst ?_ | with_reducible refine f_call ?_ | with_reducible refine f_itA ?_ | with_reducible refine f_r1 ?_ | with_reducible refine r_seq ?_ | with_reducible refine n_add ?_ | with_reducible refine n_sub ?_ | with_reducible refine n_gt ?_ | with_reducible refine n_ge ?_ | with_reducible refine n_lt ?_ | with_reducible refine n_le ?_ | with_reducible refine e_var (by with_unfolding_all rfl) ?_ | with_reducible refine e_ixc (by with_unfolding_all rfl) ?_ | with_reducible refine e_callM (by with_unfolding_all rfl) ?_ | with_reducible refine s_frz (by with_unfolding_all rfl) ?_ | with_reducible refine s_app (by with_unfolding_all rfl) ?_ | refine Or.inl ⟨by first | with_reducible rfl | with_reducible exact Bool.not_false, ?_⟩ | refine Or.inr ⟨by first | with_reducible rfl | with_reducible exact Bool.not_true, ?_⟩ | refine Exists.intro _ (Exists.intro _ ⟨rfl, rfl, gd rfl ?_⟩) | refine Exists.intro _ ⟨rfl, ?_⟩)
    have up : (10 : Int) ^ 600 < 2 ^ 2000 := by decide +kernel
    have lo := two_pos 2000
    have out : ∀ y : Int, (y = 0 ∨ y = 1) → Gd (gMul (.int x) (.int y)) fun d => ∃ z : Int, d = .int z ∧ 0 ≤ z ∧ z < 10 ^ 600 := fun y hy => by
      refine n_mul 2000 (by omega) (by omega) ?_ ?_ (by decide) (by decide) ?_
      · rcases hy with rfl | rfl <;> omega
      · have : (1 : Int) < 2 ^ 2000 := by decide +kernel
        rcases hy with rfl | rfl <;> omega
      · rcases hy with rfl | rfl
        · exact ⟨0, by rw [Int.mul_zero], by decide, by decide +kernel⟩
        · exact ⟨x, by rw [Int.mul_one], h0, h1⟩
    refine gd (a := .int (if decide ((10 : Int) ^ 18 ≤ x) = true then 1 else 0)) rfl ?_
    refine gd_mono (out _ (by split <;> simp)) fun d hd => ?_
    obtain ⟨z, rfl, z0, z1⟩ := hd
    repeat (first | with_reducible refine s_seq ?_ | with_reducible refine s_if ?_ | with_reducible refine s_set ?_ | with_reducible refine s_setIx ?_ | with_reducible refine s_ret ?_ | with_reducible refine s_nil ?_ | with_reducible refine s_own ?_ | with_reducible refine s_par ?_ | with_reducible refine t_tst ?_ | with_reducible refine t_and ?_ | with_reducible refine t_or ?_ | with_reducible refine t_not ?_ | with_reducible refine t_yes ?_ | with_reducible refine e_op ?_ | with_reducible refine e_un ?_ | with_reducible refine e_chain ?_ | with_reducible refine e_b ?_ | with_reducible refine e_c ?_ | with_reducible refine e_l ?_ | with_reducible refine e_tup ?_ | with_reducible refine e_call ?_ | with_reducible refine e_and ?_ | with_reducible refine e_or ?_ | with_reducible refine e_not ?_ | with_reducible refine e_if ?_ | with_reducible refine e_sl ?_ | with_reducible refine o_n ?_ | with_reducible refine o_s ?_ | with_reducible refine a_nil ?_ | with_reducible refine a_cons ?_ | with_reducible refine f_lst ?_ | with_reducible refine f_call ?_ | with_reducible refine f_itA ?_ | with_reducible refine f_r1 ?_ | with_reducible refine r_seq ?_ | with_reducible refine n_add ?_ | with_reducible refine n_sub ?_ | with_reducible refine n_gt ?_ | with_reducible refine n_ge ?_ | with_reducible refine n_lt ?_ | with_reducible refine n_le ?_ | with_reducible refine e_var (by with_unfolding_all rfl) ?_ | with_reducible refine e_ixc (by with_unfolding_all rfl) ?_ | with_reducible refine e_callM (by with_unfolding_all rfl) ?_ | with_reducible refine s_frz (by with_unfolding_all rfl) ?_ | with_reducible refine s_app (by with_unfolding_all rfl) ?_ | refine Or.inl ⟨by first | with_reducible rfl | with_reducible exact Bool.not_false, ?_⟩ | refine Or.inr ⟨by first | with_reducible rfl | with_reducible exact Bool.not_true, ?_⟩ | refine Exists.intro _ (Exists.intro _ ⟨rfl, rfl, gd rfl ?_⟩) | refine Exists.intro _ ⟨rfl, ?_⟩)
    refine n_mod (by decide) fun l1 l2 => ?_
    repeat (first | with_reducible refine s_seq ?_ | with_reducible refine s_if ?_ | with_reducible refine s_set ?_ | with_reducible refine s_setIx ?_ | with_reducible refine s_ret ?_ | with_reducible refine s_nil ?_ | with_reducible refine s_own ?_ | with_reducible refine s_par ?_ | with_reducible refine t_tst ?_ | with_reducible refine t_and ?_ | with_reducible refine t_or ?_ | with_reducible refine t_not ?_ | with_reducible refine t_yes ?_ | with_reducible refine e_op ?_ | with_reducible refine e_un ?_ | with_reducible refine e_chain ?_ | with_reducible refine e_b ?_ | with_reducible refine e_c ?_ | with_reducible refine e_l ?_ | with_reducible refine e_tup ?_ | with_reducible refine e_call ?_ | with_reducible refine e_and ?_ | with_reducible refine e_or ?_ | with_reducible refine e_not ?_ | with_reducible refine e_if ?_ | with_reducible refine e_sl ?_ | with_reducible refine o_n ?_ | with_reducible refine o_s ?_ | with_reducible refine a_nil ?_ | with_reducible refine a_cons ?_ | with_reducible refine f_lst ?_ | with_reducible refine f_call ?_ | with_reducible refine f_itA ?_ | with_reducible refine f_r1 ?_ | with_reducible refine r_seq ?_ | with_reducible refine n_add ?_ | with_reducible refine n_sub ?_ | with_reducible refine n_gt ?_ | with_reducible refine n_ge ?_ | with_reducible refine n_lt ?_ | with_reducible refine n_le ?_ | with_reducible refine e_var (by with_unfolding_all rfl) ?_ | with_reducible refine e_ixc (by with_unfolding_all rfl) ?_ | with_reducible refine e_callM (by with_unfolding_all rfl) ?_ | with_reducible refine s_frz (by with_unfolding_all rfl) ?_ | with_reducible refine s_app (by with_unfolding_all rfl) ?_ | refine Or.inl ⟨by first | with_reducible rfl | with_reducible exact Bool.not_false, ?_⟩ | refine Or.inr ⟨by first | with_reducible rfl | with_reducible exact Bool.not_true, ?_⟩ | refine Exists.intro _ (Exists.intro _ ⟨rfl, rfl, gd rfl ?_⟩) | refine Exists.intro _ ⟨rfl, ?_⟩)
    refine n_mul 40 (by decide) (by decide) (by omega) (by omega) (by decide) (by decide) ?_
    repeat (first | with_reducible refine s_seq ?_ | with_reducible refine s_if ?_ | with_reducible refine s_set ?_ | with_reducible refine s_setIx ?_ | with_reducible refine s_ret ?_ | with_reducible refine s_nil ?_ | with_reducible refine s_own ?_ | with_reducible refine s_par ?_ | with_reducible refine t_tst ?_ | with_reducible refine t_and ?_ | with_reducible refine t_or ?_ | with_reducible refine t_not ?_ | with_reducible refine t_yes ?_ | with_reducible refine e_op ?_ | with_reducible refine e_un ?_ | with_reducible refine e_chain ?_ | with_reducible refine e_b ?_ | with_reducible refine e_c ?_ | with_reducible refine e_l ?_ | with_reducible refine e_tup ?_ | with_reducible refine e_call ?_ | with_reducible refine e_and ?_ | with_reducible refine e_or ?_ | with_reducible refine e_not ?_ | with_reducible refine e_if ?_ | with_reducible refine e_sl ?_ | with_reducible refine o_n ?_ | with_reducible refine o_s ?_ | with_reducible refine a_nil ?_ | with_reducible refine a_cons ?_ | with_reducible refine f_lst ?_ | with_reducible refine f_call ?_ | with_reducible refine f_itA ?_ | with_reducible refine f_r1 ?_ | with_reducible refine r_seq ?_ | with_reducible refine n_add ?_ | with_reducible refine n_sub ?_ | with_reducible refine n_gt ?_ | with_reducible refine n_ge ?_ | with_reducible refine n_lt ?_ | with_reducible refine n_le ?_ | with_reducible refine e_var (by with_unfolding_all rfl) ?_ | with_reducible refine e_ixc (by with_unfolding_all rfl) ?_ | with_reducible refine e_callM (by with_unfolding_all rfl) ?_ | with_reducible refine s_frz (by with_unfolding_all rfl) ?_ | with_reducible refine s_app (by with_unfolding_all rfl) ?_ | refine Or.inl ⟨by first | with_reducible rfl | with_reducible exact Bool.not_false, ?_⟩ | refine Or.inr ⟨by first | with_reducible rfl | with_reducible exact Bool.not_true, ?_⟩ | refine Exists.intro _ (Exists.intro _ ⟨rfl, rfl, gd rfl ?_⟩) | refine Exists.intro _ ⟨rfl, ?_⟩)
    refine n_pow (b := 5) 40 (by omega) (by omega) (by decide) (by decide) fun _ => ?_
    repeat (first | with_reducible refine s_seq ?_ | with_reducible refine s_if ?_ | with_reducible refine s_set ?_ | with_reducible refine s_setIx ?_ | with_reducible refine s_ret ?_ | with_reducible refine s_nil ?_ | with_reducible refine s_own ?_ | with_reducible refine s_par ?_ | with_reducible refine t_tst ?_ | with_reducible refine t_and ?_ | with_reducible refine t_or ?_ | with_reducible refine t_not ?_ | with_reducible refine t_yes ?_ | with_reducible refine e_op ?_ | with_reducible refine e_un ?_ | with_reducible refine e_chain ?_ | with_reducible refine e_b ?_ | with_reducible refine e_c ?_ | with_reducible refine e_l ?_ | with_reducible refine e_tup ?_ | with_reducible refine e_call ?_ | with_reducible refine e_and ?_ | with_reducible refine e_or ?_ | with_reducible refine e_not ?_ | with_reducible refine e_if ?_ | with_reducible refine e_sl ?_ | with_reducible refine o_n ?_ | with_reducible refine o_s ?_ | with_reducible refine a_nil ?_ | with_reducible refine a_cons ?_ | with_reducible refine f_lst ?_ | with_reducible refine f_call ?_ | with_reducible refine f_itA ?_ | with_reducible refine f_r1 ?_ | with_reducible refine r_seq ?_ | with_reducible refine n_add ?_ | with_reducible refine n_sub ?_ | with_reducible refine n_gt ?_ | with_reducible refine n_ge ?_ | with_reducible refine n_lt ?_ | with_reducible refine n_le ?_ | with_reducible refine e_var (by with_unfolding_all rfl) ?_ | with_reducible refine e_ixc (by with_unfolding_all rfl) ?_ | with_reducible refine e_callM (by with_unfolding_all rfl) ?_ | with_reducible refine s_frz (by with_unfolding_all rfl) ?_ | with_reducible refine s_app (by with_unfolding_all rfl) ?_ | refine Or.inl ⟨by first | with_reducible rfl | with_reducible exact Bool.not_false, ?_⟩ | refine Or.inr ⟨by first | with_reducible rfl | with_reducible exact Bool.not_true, ?_⟩ | refine Exists.intro _ (Exists.intro _ ⟨rfl, rfl, gd rfl ?_⟩) | refine Exists.intro _ ⟨rfl, ?_⟩)
    refine n_mod (by decide) fun l3 l4 => ?_
    repeat (first | with_reducible refine s_seq ?_ | with_reducible refine s_if ?_ | with_reducible refine s_set ?_ | with_reducible refine s_setIx ?_ | with_reducible refine s_ret ?_ | with_reducible refine s_nil ?_ | with_reducible refine s_own ?_ | with_reducible refine s_par ?_ | with_reducible refine t_tst ?_ | with_reducible refine t_and ?_ | with_reducible refine t_or ?_ | with_reducible refine t_not ?_ | with_reducible refine t_yes ?_ | with_reducible refine e_op ?_ | with_reducible refine e_un ?_ | with_reducible refine e_chain ?_ | with_reducible refine e_b ?_ | with_reducible refine e_c ?_ | with_reducible refine e_l ?_ | with_reducible refine e_tup ?_ | with_reducible refine e_call ?_ | with_reducible refine e_and ?_ | with_reducible refine e_or ?_ | with_reducible refine e_not ?_ | with_reducible refine e_if ?_ | with_reducible refine e_sl ?_ | with_reducible refine o_n ?_ | with_reducible refine o_s ?_ | with_reducible refine a_nil ?_ | with_reducible refine a_cons ?_ | with_reducible refine f_lst ?_ | with_reducible refine f_call ?_ | with_reducible refine f_itA ?_ | with_reducible refine f_r1 ?_ | with_reducible refine r_seq ?_ | with_reducible refine n_add ?_ | with_reducible refine n_sub ?_ | with_reducible refine n_gt ?_ | with_reducible refine n_ge ?_ | with_reducible refine n_lt ?_ | with_reducible refine n_le ?_ | with_reducible refine e_var (by with_unfolding_all rfl) ?_ | with_reducible refine e_ixc (by with_unfolding_all rfl) ?_ | with_reducible refine e_callM (by with_unfolding_all rfl) ?_ | with_reducible refine s_frz (by with_unfolding_all rfl) ?_ | with_reducible refine s_app (by with_unfolding_all rfl) ?_ | refine Or.inl ⟨by first | with_reducible rfl | with_reducible exact Bool.not_false, ?_⟩ | refine Or.inr ⟨by first | with_reducible rfl | with_reducible exact Bool.not_true, ?_⟩ | refine Exists.intro _ (Exists.intro _ ⟨rfl, rfl, gd rfl ?_⟩) | refine Exists.intro _ ⟨rfl, ?_⟩)
    exact ⟨by show 3 ≤ _; decide, z, _, 0, rfl, z0, z1, l3, by omega, by decide, by decide⟩
  repeat (first | with_reducible refine s_seq ?_ | with_reducible refine s_if ?_ | with_reducible refine s_set ?_ | with_reducible refine s_setIx ?_ | with_reducible refine s_ret ?_ | with_reducible refine s_nil ?_ | with_reducible refine s_own ?_ | with_reducible refine s_par ?_ | with_reducible refine t_tst ?_ | with_reducible refine t_and ?_ | with_reducible refine t_or ?_ | with_reducible refine t_not ?_ | with_reducible refine t_yes ?_ | with_reducible refine e_op ?_ | with_reducible refine e_un ?_ | with_reducible refine e_chain ?_ | with_reducible refine e_b ?_ | with_reducible refine e_c ?_ | with_reducible refine e_l ?_ | with_reducible refine e_tup ?_ | with_reducible refine e_call ?_ | with_reducible refine e_and ?_ | with_reducible refine e_or ?_ | with_reducible refine e_not ?_ | with_reducible refine e_if ?_ | with_reducible refine e_sl ?_ | with_reducible refine o_n ?_ | with_reducible refine o_s ?_ | with_reducible refine a_nil ?_ | with_reducible refine a_cons ?_ | with_reducible refine f_lst ?_ | with_reducible refine f_call ?_ | with_reducible refine f_itA ?_ | with_reducible refine f_r1 ?_ | with_reducible refine r_seq ?_ | with_reducible refine n_add ?_ | with_reducible refine n_sub ?_ | with_reducible refine n_gt ?_ | with_reducible refine n_ge ?_ | with_reducible refine n_lt ?_ | with_reducible refine n_le ?_ | with_reducible refine e_var (by with_unfolding_all rfl) ?_ | with_reducible refine e_ixc (by with_unfolding_all rfl) ?_ | with_reducible refine e_callM (by with_unfolding_all rfl) ?_ | with_reducible refine s_frz (by with_unfolding_all rfl) ?_ | with_reducible refine s_app (by with_unfolding_all rfl) ?_ | refine Or.inl ⟨by first | with_reducible rfl | with_reducible exact Bool.not_false, ?_⟩ | refine Or.inr ⟨by first | with_reducible rfl | with_reducible exact Bool.not_true, ?_⟩ | refine Exists.intro _ (Exists.intro _ ⟨rfl, rfl, gd rfl ?_⟩) | refine Exists.intro _ ⟨rfl, ?_⟩)
  refine gd (a := .int ((ns.map PyData.int).length : Nat)) rfl ?_
  repeat (first | with_reducible refine s_seq ?_ | with_reducible refine s_if ?_ | with_reducible refine s_set ?_ | with_reducible refine s_setIx ?_ | with_reducible refine s_ret ?_ | with_reducible refine s_nil ?_ | with_reducible refine s_own ?_ | with_reducible refine s_par ?_ | with_reducible refine t_tst ?_ | with_reducible refine t_and ?_ | with_reducible refine t_or ?_ | with_reducible refine t_not ?_ | with_reducible refine t_yes ?_ | with_reducible refine e_op ?_ | with_reducible refine e_un ?_ | with_reducible refine e_chain ?_ | with_reducible refine e_b ?_ | with_reducible refine e_c ?_ | with_reducible refine e_l ?_ | with_reducible refine e_tup ?_ | with_reducible refine e_call ?_ | with_reducible refine e_and ?_ | with_reducible refine e_or ?_ | with_reducible refine e_not ?_ | with_reducible refine e_if ?_ | with_reducible refine e_sl ?_ | with_reducible refine o_n ?_ | with_reducible refine o_s ?_ | with_reducible refine a_nil ?_ | with_reducible refine a_cons ?_ | with_reducible refine f_lst ?_ | with_reducible refine f_call ?_ | with_reducible refine f_itA ?_ | with_reducible refine f_r1 ?_ | with_reducible refine r_seq ?_ | with_reducible refine n_add ?_ | with_reducible refine n_sub ?_ | with_reducible refine n_gt ?_ | with_reducible refine n_ge ?_ | with_reducible refine n_lt ?_ | with_reducible refine n_le ?_ | with_reducible refine e_var (by with_unfolding_all rfl) ?_ | with_reducible refine e_ixc (by with_unfolding_all rfl) ?_ | with_reducible refine e_callM (by with_unfolding_all rfl) ?_ | with_reducible refine s_frz (by with_unfolding_all rfl) ?_ | with_reducible refine s_app (by with_unfolding_all rfl) ?_ | refine Or.inl ⟨by first | with_reducible rfl | with_reducible exact Bool.not_false, ?_⟩ | refine Or.inr ⟨by first | with_reducible rfl | with_reducible exact Bool.not_true, ?_⟩ | refine Exists.intro _ (Exists.intro _ ⟨rfl, rfl, gd rfl ?_⟩) | refine Exists.intro _ ⟨rfl, ?_⟩)
  by_cases c : k < ns.length
  · refine .inl ⟨decide_eq_true (by rw [List.length_map]; omega), ?_⟩
    repeat (first | with_reducible refine s_seq ?_ | with_reducible refine s_if ?_ | with_reducible refine s_set ?_ | with_reducible refine s_setIx ?_ | with_reducible refine s_ret ?_ | with_reducible refine s_nil ?_ | with_reducible refine s_own ?_ | with_reducible refine s_par ?_ | with_reducible refine t_tst ?_ | with_reducible refine t_and ?_ | with_reducible refine t_or ?_ | with_reducible refine t_not ?_ | with_reducible refine t_yes ?_ | with_reducible refine e_op ?_ | with_reducible refine e_un ?_ | with_reducible refine e_chain ?_ | with_reducible refine e_b ?_ | with_reducible refine e_c ?_ | with_reducible refine e_l ?_ | with_reducible refine e_tup ?_ | with_reducible refine e_call ?_ | with_reducible refine e_and ?_ | with_reducible refine e_or ?_ | with_reducible refine e_not ?_ | with_reducible refine e_if ?_ | with_reducible refine e_sl ?_ | with_reducible refine o_n ?_ | with_reducible refine o_s ?_ | with_reducible refine a_nil ?_ | with_reducible refine a_cons ?_ | with_reducible refine f_lst ?_ | with_reducible refine f_call ?_ | with_reducible refine f_itA ?_ | with_reducible refine f_r1 ?_ | with_reducible refine r_seq ?_ | with_reducible refine n_add ?_ | with_reducible refine n_sub ?_ | with_reducible refine n_gt ?_ | with_reducible refine n_ge ?_ | with_reducible refine n_lt ?_ | with_reducible refine n_le ?_ | with_reducible refine e_var (by with_unfolding_all rfl) ?_ | with_reducible refine e_ixc (by with_unfolding_all rfl) ?_ | with_reducible refine e_callM (by with_unfolding_all rfl) ?_ | with_reducible refine s_frz (by with_unfolding_all rfl) ?_ | with_reducible refine s_app (by with_unfolding_all rfl) ?_ | refine Or.inl ⟨by first | with_reducible rfl | with_reducible exact Bool.not_false, ?_⟩ | refine Or.inr ⟨by first | with_reducible rfl | with_reducible exact Bool.not_true, ?_⟩ | refine Exists.intro _ (Exists.intro _ ⟨rfl, rfl, gd rfl ?_⟩) | refine Exists.intro _ ⟨rfl, ?_⟩)
    refine gd (atI_map c) ?_
    repeat (first | with_reducible refine s_seq ?_ | with_reducible refine s_if ?_ | with_reducible refine s_set ?_ | with_reducible refine s_setIx ?_ | with_reducible refine s_ret ?_ | with_reducible refine s_nil ?_ | with_reducible refine s_own ?_ | with_reducible refine s_par ?_ | with_reducible refine t_tst ?_ | with_reducible refine t_and ?_ | with_reducible refine t_or ?_ | with_reducible refine t_not ?_ | with_reducible refine t_yes ?_ | with_reducible refine e_op ?_ | with_reducible refine e_un ?_ | with_reducible refine e_chain ?_ | with_reducible refine e_b ?_ | with_reducible refine e_c ?_ | with_reducible refine e_l ?_ | with_reducible refine e_tup ?_ | with_reducible refine e_call ?_ | with_reducible refine e_and ?_ | with_reducible refine e_or ?_ | with_reducible refine e_not ?_ | with_reducible refine e_if ?_ | with_reducible refine e_sl ?_ | with_reducible refine o_n ?_ | with_reducible refine o_s ?_ | with_reducible refine a_nil ?_ | with_reducible refine a_cons ?_ | with_reducible refine f_lst ?_ | with_reducible refine f_call ?_ | with_reducible refine f_itA ?_ | with_reducible refine f_r1 ?_ | with_reducible refine r_seq ?_ | with_reducible refine n_add ?_ | with_reducible refine n_sub ?_ | with_reducible refine n_gt ?_ | with_reducible refine n_ge ?_ | with_reducible refine n_lt ?_ | with_reducible refine n_le ?_ | with_reducible refine e_var (by with_unfolding_all rfl) ?_ | with_reducible refine e_ixc (by with_unfolding_all rfl) ?_ | with_reducible refine e_callM (by with_unfolding_all rfl) ?_ | with_reducible refine s_frz (by with_unfolding_all rfl) ?_ | with_reducible refine s_app (by with_unfolding_all rfl) ?_ | refine Or.inl ⟨by first | with_reducible rfl | with_reducible exact Bool.not_false, ?_⟩ | refine Or.inr ⟨by first | with_reducible rfl | with_reducible exact Bool.not_true, ?_⟩ | refine Exists.intro _ (Exists.intro _ ⟨rfl, rfl, gd rfl ?_⟩) | refine Exists.intro _ ⟨rfl, ?_⟩)
    refine gd (a := .int (if ns[k] < 0 then -ns[k] else ns[k])) rfl ?_
    repeat (first | with_reducible refine s_seq ?_ | with_reducible refine s_if ?_ | with_reducible refine s_set ?_ | with_reducible refine s_setIx ?_ | with_reducible refine s_ret ?_ | with_reducible refine s_nil ?_ | with_reducible refine s_own ?_ | with_reducible refine s_par ?_ | with_reducible refine t_tst ?_ | with_reducible refine t_and ?_ | with_reducible refine t_or ?_ | with_reducible refine t_not ?_ | with_reducible refine t_yes ?_ | with_reducible refine e_op ?_ | with_reducible refine e_un ?_ | with_reducible refine e_chain ?_ | with_reducible refine e_b ?_ | with_reducible refine e_c ?_ | with_reducible refine e_l ?_ | with_reducible refine e_tup ?_ | with_reducible refine e_call ?_ | with_reducible refine e_and ?_ | with_reducible refine e_or ?_ | with_reducible refine e_not ?_ | with_reducible refine e_if ?_ | with_reducible refine e_sl ?_ | with_reducible refine o_n ?_ | with_reducible refine o_s ?_ | with_reducible refine a_nil ?_ | with_reducible refine a_cons ?_ | with_reducible refine f_lst ?_ | with_reducible refine f_call ?_ | with_reducible refine f_itA ?_ | with_reducible refine f_r1 ?_ | with_reducible refine r_seq ?_ | with_reducible refine n_add ?_ | with_reducible refine n_sub ?_ | with_reducible refine n_gt ?_ | with_reducible refine n_ge ?_ | with_reducible refine n_lt ?_ | with_reducible refine n_le ?_ | with_reducible refine e_var (by with_unfolding_all rfl) ?_ | with_reducible refine e_ixc (by with_unfolding_all rfl) ?_ | with_reducible refine e_callM (by with_unfolding_all rfl) ?_ | with_reducible refine s_frz (by with_unfolding_all rfl) ?_ | with_reducible refine s_app (by with_unfolding_all rfl) ?_ | refine Or.inl ⟨by first | with_reducible rfl | with_reducible exact Bool.not_false, ?_⟩ | refine Or.inr ⟨by first | with_reducible rfl | with_reducible exact Bool.not_true, ?_⟩ | refine Exists.intro _ (Exists.intro _ ⟨rfl, rfl, gd rfl ?_⟩) | refine Exists.intro _ ⟨rfl, ?_⟩)
    refine n_pow (b := 60) 4 (by decide) (by decide) (by decide) (by decide) fun _ => ?_
    repeat (first | with_reducible refine s_seq ?_ | with_reducible refine s_if ?_ | with_reducible refine s_set ?_ | with_reducible refine s_setIx ?_ | with_reducible refine s_ret ?_ | with_reducible refine s_nil ?_ | with_reducible refine s_own ?_ | with_reducible refine s_par ?_ | with_reducible refine t_tst ?_ | with_reducible refine t_and ?_ | with_reducible refine t_or ?_ | with_reducible refine t_not ?_ | with_reducible refine t_yes ?_ | with_reducible refine e_op ?_ | with_reducible refine e_un ?_ | with_reducible refine e_chain ?_ | with_reducible refine e_b ?_ | with_reducible refine e_c ?_ | with_reducible refine e_l ?_ | with_reducible refine e_tup ?_ | with_reducible refine e_call ?_ | with_reducible refine e_and ?_ | with_reducible refine e_or ?_ | with_reducible refine e_not ?_ | with_reducible refine e_if ?_ | with_reducible refine e_sl ?_ | with_reducible refine o_n ?_ | with_reducible refine o_s ?_ | with_reducible refine a_nil ?_ | with_reducible refine a_cons ?_ | with_reducible refine f_lst ?_ | with_reducible refine f_call ?_ | with_reducible refine f_itA ?_ | with_reducible refine f_r1 ?_ | with_reducible refine r_seq ?_ | with_reducible refine n_add ?_ | with_reducible refine n_sub ?_ | with_reducible refine n_gt ?_ | with_reducible refine n_ge ?_ | with_reducible refine n_lt ?_ | with_reducible refine n_le ?_ | with_reducible refine e_var (by with_unfolding_all rfl) ?_ | with_reducible refine e_ixc (by with_unfolding_all rfl) ?_ | with_reducible refine e_callM (by with_unfolding_all rfl) ?_ | with_reducible refine s_frz (by with_unfolding_all rfl) ?_ | with_reducible refine s_app (by with_unfolding_all rfl) ?_ | refine Or.inl ⟨by first | with_reducible rfl | with_reducible exact Bool.not_false, ?_⟩ | refine Or.inr ⟨by first | with_reducible rfl | with_reducible exact Bool.not_true, ?_⟩ | refine Exists.intro _ (Exists.intro _ ⟨rfl, rfl, gd rfl ?_⟩) | refine Exists.intro _ ⟨rfl, ?_⟩)
    refine n_pow (b := 10) 200 (by decide +kernel) (by decide +kernel) (by decide) (by decide) fun _ => ?_
    have e : ((10 : Int) ^ 60) ^ 10 = 10 ^ 600 := by decide +kernel
    rw [e]
    refine n_mod (by decide +kernel) fun l1 l2 => ?_
    repeat (first | exact fin _ l1 l2 | (first | with_reducible refine s_seq ?_ | with_reducible refine s_if ?_ | with_reducible refine s_set ?_ | with_reducible refine s_setIx ?_ | with_reducible refine s_ret ?_ | with_reducible refine s_nil ?_ | with_reducible refine s_own ?_ | with_reducible refine s_par ?_ | with_reducible refine t_tst ?_ | with_reducible refine t_and ?_ | with_reducible refine t_or ?_ | with_reducible refine t_not ?_ | with_reducible refine t_yes ?_ | with_reducible refine e_op ?_ | with_reducible refine e_un ?_ | with_reducible refine e_chain ?_ | with_reducible refine e_b ?_ | with_reducible refine e_c ?_ | with_reducible refine e_l ?_ | with_reducible refine e_tup ?_ | with_reducible refine e_call ?_ | with_reducible refine e_and ?_ | with_reducible refine e_or ?_ | with_reducible refine e_not ?_ | with_reducible refine e_if ?_ | with_reducible refine e_sl ?_ | with_reducible refine o_n ?_ | with_reducible refine o_s ?_ | with_reducible refine a_nil ?_ | with_reducible refine a_cons ?_ | with_reducible refine f_lst ?_ | with_reducible refine f_call ?_ | with_reducible refine f_itA ?_ | with_reducible refine f_r1 ?_ | with_reducible refine r_seq ?_ | with_reducible refine n_add ?_ | with_reducible refine n_sub ?_ | with_reducible refine n_gt ?_ | with_reducible refine n_ge ?_ | with_reducible refine n_lt ?_ | with_reducible refine n_le ?_ | with_reducible refine e_var (by with_unfolding_all rfl) ?_ | with_reducible refine e_ixc (by with_unfolding_all rfl) ?_ | with_reducible refine e_callM (by with_unfolding_all rfl) ?_ | with_reducible refine s_frz (by with_unfolding_all rfl) ?_ | with_reducible refine s_app (by with_unfolding_all rfl) ?_ | refine Or.inl ⟨by first | with_reducible rfl | with_reducible exact Bool.not_false, ?_⟩ | refine Or.inr ⟨by first | with_reducible rfl | with_reducible exact Bool.not_true, ?_⟩ | refine Exists.intro _ (Exists.intro _ ⟨rfl, rfl, gd rfl ?_⟩) | refine Exists.intro _ ⟨rfl, ?_⟩))
  · refine .inr ⟨decide_eq_false (by rw [List.length_map]; omega), ?_⟩
    repeat (first | exact fin 0 (by decide) (by decide +kernel) | (first | with_reducible refine s_seq ?_ | with_reducible refine s_if ?_ | with_reducible refine s_set ?_ | with_reducible refine s_setIx ?_ | with_reducible refine s_ret ?_ | with_reducible refine s_nil ?_ | with_reducible refine s_own ?_ | with_reducible refine s_par ?_ | with_reducible refine t_tst ?_ | with_reducible refine t_and ?_ | with_reducible refine t_or ?_ | with_reducible refine t_not ?_ | with_reducible refine t_yes ?_ | with_reducible refine e_op ?_ | with_reducible refine e_un ?_ | with_reducible refine e_chain ?_ | with_reducible refine e_b ?_ | with_reducible refine e_c ?_ | with_reducible refine e_l ?_ | with_reducible refine e_tup ?_ | with_reducible refine e_call ?_ | with_reducible refine e_and ?_ | with_reducible refine e_or ?_ | with_reducible refine e_not ?_ | with_reducible refine e_if ?_ | with_reducible refine e_sl ?_ | with_reducible refine o_n ?_ | with_reducible refine o_s ?_ | with_reducible refine a_nil ?_ | with_reducible refine a_cons ?_ | with_reducible refine f_lst ?_ | with_reducible refine f_call ?_ | with_reducible refine f_itA ?_ | with_reducible refine f_r1 ?_ | with_reducible refine r_seq ?_ | with_reducible refine n_add ?_ | with_reducible refine n_sub ?_ | with_reducible refine n_gt ?_ | with_reducible refine n_ge ?_ | with_reducible refine n_lt ?_ | with_reducible refine n_le ?_ | with_reducible refine e_var (by with_unfolding_all rfl) ?_ | with_reducible refine e_ixc (by with_unfolding_all rfl) ?_ | with_reducible refine e_callM (by with_unfolding_all rfl) ?_ | with_reducible refine s_frz (by with_unfolding_all rfl) ?_ | with_reducible refine s_app (by with_unfolding_all rfl) ?_ | refine Or.inl ⟨by first | with_reducible rfl | with_reducible exact Bool.not_false, ?_⟩ | refine Or.inr ⟨by first | with_reducible rfl | with_reducible exact Bool.not_true, ?_⟩ | refine Exists.intro _ (Exists.intro _ ⟨rfl, rfl, gd rfl ?_⟩) | refine Exists.intro _ ⟨rfl, ?_⟩))

theorem at_ok (ds : List PyData) {r : Int} (h0 : 0 ≤ r) (h : r < ds.length) : ∃ d, atI ds r = some d ∧ d ∈ ds := by
  unfold atI ixN
  rw [if_pos h0, if_pos h, Option.bind_some]
  have l : r.toNat < ds.length := by omega
  exact ⟨ds[r.toNat], by rw [List.getElem?_eq_getElem l], List.getElem_mem l⟩
theorem ix_list (ds : List PyData) {r : Int} {D : PyData → Prop} (h0 : 0 ≤ r) (h : r < ds.length) (k : ∀ d ∈ ds, D d) : Gd (gIx (.list ds) (.int r)) D := by
  obtain ⟨d, e, m⟩ := at_ok ds h0 h
  exact gd (show atI ds r = some d from e) (k d m)
theorem cat_list {x y : List PyData} {D : PyData → Prop} (few : x.length + y.length ≤ 1000) (k : D (.list (x ++ y))) : Gd (gAdd (.list x) (.list y)) D :=
  gd (show (if x.length + y.length ≤ sizeLine then _ else _) = _ from if_pos (Nat.le_trans few (by decide))) k
/-- what the pot stands at -/
theorem pot_at {n : Nat} {pd : List PyData} (h : Pot n pd) {m : Int} (hn : n < 1000000) (hm : 1 ≤ m) (hM : m ≤ 2 ^ 60) {D : PyData × List PyData → Prop} (k : ∀ (r : Int) (p : List PyData), 0 ≤ r → r < m → Pot (n + 1) p → D (.int r, p)) : Gd (m__law_take pd [.int m]) D :=
  gd_mono (take_ok h hn hm hM) fun q hq => by
    obtain ⟨d, p⟩ := q
    obtain ⟨r, e, h0, h1, hp⟩ := hq
    have e' : d = .int r := e
    subst e'
    exact k r p h0 h1 hp
end K57

namespace K57
open PySem PySem.Spec PyProof.Rows L2 Dl
/-! ### fractions -/
/-- what both are divided by -/
def G (p q : Int) : Int := if 0 < q then ((Nat.gcd p.natAbs q.natAbs : Nat) : Int) else -((Nat.gcd p.natAbs q.natAbs : Nat) : Int)
def F (p q : Int) : PyData := .tuple [.int (p.fdiv (G p q)), .int (q.fdiv (G p q))]
theorem gcd_pos {p q : Int} (h : q ≠ 0) : 0 < Nat.gcd p.natAbs q.natAbs := Nat.gcd_pos_of_pos_right _ (by omega)
theorem gcd_le {p q : Int} (h : q ≠ 0) : Nat.gcd p.natAbs q.natAbs ≤ q.natAbs := Nat.gcd_le_right _ (by omega)
theorem G_ne {p q : Int} (h : q ≠ 0) : G p q ≠ 0 := by
  have := gcd_pos (p := p) h
  unfold G
  split <;> omega
theorem G_abs (p q : Int) : (G p q).natAbs = Nat.gcd p.natAbs q.natAbs := by
  unfold G
  split
  · exact Int.natAbs_natCast _
  · rw [Int.natAbs_neg]; exact Int.natAbs_natCast _
theorem G_dvd_left (p q : Int) : G p q ∣ p := Int.natAbs_dvd_natAbs.mp (by rw [G_abs]; exact Nat.gcd_dvd_left _ _)
theorem G_dvd_right (p q : Int) : G p q ∣ q := Int.natAbs_dvd_natAbs.mp (by rw [G_abs]; exact Nat.gcd_dvd_right _ _)
/-- the parts of a fraction in lowest terms -/
theorem parts {p q : Int} (h : q ≠ 0) : ∃ a b : Int, p = G p q * a ∧ q = G p q * b ∧ 0 < b ∧ Nat.gcd a.natAbs b.natAbs = 1 ∧ F p q = .tuple [.int a, .int b] := by
  obtain ⟨a, ha⟩ := G_dvd_left p q
  obtain ⟨b, hb⟩ := G_dvd_right p q
  have gn := G_ne (p := p) h
  have gp := gcd_pos (p := p) h
  refine ⟨a, b, ha, hb, ?_, ?_, ?_⟩
  · by_cases c : 0 < q
    · have g0 : 0 < G p q := by unfold G; rw [if_pos c]; omega
      refine Int.pos_of_mul_pos_right ?_ g0 |> fun z => z
      rw [← hb]; exact c
    · have g0 : G p q < 0 := by unfold G; rw [if_neg c]; omega
      have q0 : q < 0 := by omega
      rcases Int.lt_trichotomy b 0 with z | z | z
      · exfalso
        have := Int.mul_pos_of_neg_of_neg g0 z
        omega
      · subst z; rw [Int.mul_zero] at hb; omega
      · exact z
  · have e1 : p.natAbs = (G p q).natAbs * a.natAbs := by rw [← Int.natAbs_mul, ← ha]
    have e2 : q.natAbs = (G p q).natAbs * b.natAbs := by rw [← Int.natAbs_mul, ← hb]
    have e3 : Nat.gcd p.natAbs q.natAbs = (G p q).natAbs * Nat.gcd a.natAbs b.natAbs := by
      conv => lhs; rw [e1, e2]
      exact Nat.gcd_mul_left _ _ _
    rw [G_abs] at e3
    exact Nat.eq_of_mul_eq_mul_left gp (by rw [Nat.mul_one]; exact e3.symm)
  · unfold F
    have f1 : p.fdiv (G p q) = a := by
      conv => lhs; arg 1; rw [ha]
      exact Int.mul_fdiv_cancel_left a gn
    have f2 : q.fdiv (G p q) = b := by
      conv => lhs; arg 1; rw [hb]
      exact Int.mul_fdiv_cancel_left b gn
    rw [f1, f2]
/-- both times the same -/
theorem F_times {p q n : Int} (h : q ≠ 0) (hn : 0 < n) : F (p * n) (q * n) = F p q := by
  have e : G (p * n) (q * n) = G p q * n := by
    unfold G
    have e1 : Nat.gcd (p * n).natAbs (q * n).natAbs = Nat.gcd p.natAbs q.natAbs * n.natAbs := by
      rw [Int.natAbs_mul, Int.natAbs_mul]
      exact Nat.gcd_mul_right _ _ _
    have e2 : ((n.natAbs : Nat) : Int) = n := Int.natAbs_of_nonneg (Int.le_of_lt hn)
    rw [e1, Int.natCast_mul, e2]
    by_cases c : 0 < q
    · rw [if_pos c, if_pos (Int.mul_pos c hn)]
    · have c2 : ¬ 0 < q * n := fun z => by
        have : q < 0 := by omega
        have := Int.mul_neg_of_neg_of_pos this hn
        omega
      rw [if_neg c, if_neg c2, Int.neg_mul]
  obtain ⟨a, b, ha, hb, _, _, f⟩ := parts (p := p) h
  have gn : G p q * n ≠ 0 := Int.mul_ne_zero (G_ne h) (by omega)
  rw [f]
  unfold F
  rw [e]
  have f1 : (p * n).fdiv (G p q * n) = a := by
    have : p * n = (G p q * n) * a := by
      conv => lhs; rw [ha]
      rw [Int.mul_assoc, Int.mul_assoc, Int.mul_comm a n]
    rw [this]
    exact Int.mul_fdiv_cancel_left a gn
  have f2 : (q * n).fdiv (G p q * n) = b := by
    have : q * n = (G p q * n) * b := by
      conv => lhs; rw [hb]
      rw [Int.mul_assoc, Int.mul_assoc, Int.mul_comm b n]
    rw [this]
    exact Int.mul_fdiv_cancel_left b gn
  rw [f1, f2]
/-- in lowest terms is what isn't changed -/
theorem F_same {p q : Int} (h : 0 < q) : PyData.eqv (F p q) (.tuple [.int p, .int q]) = decide (Nat.gcd p.natAbs q.natAbs = 1) := by
  obtain ⟨a, b, ha, hb, b0, _, f⟩ := parts (p := p) (q := q) (by omega)
  have g1 : G p q = ((Nat.gcd p.natAbs q.natAbs : Nat) : Int) := by unfold G; rw [if_pos h]
  rw [f]
  have e : PyData.eqv (.tuple [.int a, .int b]) (.tuple [.int p, .int q]) = (decide (a = p) && decide (b = q)) := by
    rw [PyData.eqv, PyData.eqvAll, PyData.eqvAll, PyData.eqvAll, PyData.eqv, PyData.eqv, Bool.and_true]
    rfl
  rw [e]
  by_cases c : Nat.gcd p.natAbs q.natAbs = 1
  · have g2 : G p q = 1 := by rw [g1, c]; rfl
    rw [g2, Int.one_mul] at ha hb
    rw [decide_eq_true c, decide_eq_true ha.symm, decide_eq_true hb.symm]
    rfl
  · have nb : b ≠ q := fun z => by
      rw [z] at hb
      have : G p q * q = 1 * q := by rw [Int.one_mul]; exact hb.symm
      have g2 := Int.eq_of_mul_eq_mul_right (show q ≠ 0 by omega) this
      rw [g1] at g2
      omega
    simp [c, nb]
theorem quot_le {g a x : Int} (e : x = g * a) (hg : g ≠ 0) : a.natAbs ≤ x.natAbs := by
  rw [e, Int.natAbs_mul]
  exact Nat.le_mul_of_pos_left _ (by omega)

theorem few_abs {n : Nat} {k : Nat} (h : n < 2 ^ 200) : n < 2 ^ 200 := h
theorem fraction_ok {p q : Int} (h : q ≠ 0) (hq : q.natAbs < 2 ^ 200) : Gd (m_fraction [.int p, .int q]) fun r => r = F p q := by
  have gb := gcd_le (p := p) h
  have gn := G_ne (p := p) h
  have ga := G_abs p q
  unfold m_fraction
  refine m_fnP rfl ?_
  unfold b_fraction
  have fin : ∀ x : Int, x = G p q → Gs (sRet (dTup (aCons (dOp gDivA (dVar 0) (dVar 2)) (aCons (dOp gDivA (dVar 1) (dVar 2)) aNil))) [.dat (.int p), .dat (.int q), .dat (.int x)]) (fun _ => PyData.none = F p q) (fun d _ => d = F p q) := by
    intro x hx
    subst hx
    repeat (first | with_reducible refine s_seq ?_ | with_reducible refine s_if ?_ | with_reducible refine s_set ?_ | with_reducible refine s_setIx ?_ | with_reducible refine s_ret ?_ | with_reducible refine s_nil ?_ | with_reducible refine s_own ?_ | with_reducible refine s_par ?_ | with_reducible refine t_tst ?_ | with_reducible refine t_and ?_ | with_reducible refine t_or ?_ | with_reducible refine t_not ?_ | with_reducible refine t_yes ?_ | with_reducible refine e_op ?_ | with_reducible refine e_un ?_ | with_reducible refine e_chain ?_ | with_reducible refine e_b ?_ | with_reducible refine e_c ?_ | with_reducible refine e_l ?_ | with_reducible refine e_tup ?_ | with_reducible refine e_call ?_ | with_reducible refine e_and ?_ | with_reducible refine e_or ?_ | with_reducible refine e_not ?_ | with_reducible refine e_if ?_ | with_reducible refine e_sl ?_ | with_reducible refine o_n ?_ | with_reducible refine o_s ?_ | with_reducible refine a_nil ?_ | with_reducible refine a_cons ?_ | with_reducible refine f_lst ?_ | with_reducible refine f_call ?_ | with_reducible refine f_itA ?_ | with_reducible refine f_r1 ?_ | with_reducible refine r_seq ?_ | with_reducible refine n_add ?_ | with_reducible refine n_sub ?_ | with_reducible refine n_gt ?_ | with_reducible refine n_ge ?_ | with_reducible refine n_lt ?_ | with_reducible refine n_le ?_ | with_reducible refine e_var (by with_unfolding_all rfl) ?_ | with_reducible refine e_ixc (by with_unfolding_all rfl) ?_ | with_reducible refine e_callM (by with_unfolding_all rfl) ?_ | with_reducible refine s_frz (by with_unfolding_all rfl) ?_ | with_reducible refine s_app (by with_unfolding_all rfl) ?_ | with_reducible refine few_and (by first | decide | (simp only [List.length_cons, List.length_nil, Nat.reduceAdd, Nat.reduceLeDiff])) ?_ | refine Or.inl ⟨by first | with_reducible rfl | with_reducible exact Bool.not_false, ?_⟩ | refine Or.inr ⟨by first | with_reducible rfl | with_reducible exact Bool.not_true, ?_⟩ | refine Exists.intro _ (Exists.intro _ ⟨rfl, rfl, gd rfl ?_⟩) | refine Exists.intro _ ⟨rfl, ?_⟩)
    refine n_divN gn (by omega) ?_
    repeat (first | with_reducible refine s_seq ?_ | with_reducible refine s_if ?_ | with_reducible refine s_set ?_ | with_reducible refine s_setIx ?_ | with_reducible refine s_ret ?_ | with_reducible refine s_nil ?_ | with_reducible refine s_own ?_ | with_reducible refine s_par ?_ | with_reducible refine t_tst ?_ | with_reducible refine t_and ?_ | with_reducible refine t_or ?_ | with_reducible refine t_not ?_ | with_reducible refine t_yes ?_ | with_reducible refine e_op ?_ | with_reducible refine e_un ?_ | with_reducible refine e_chain ?_ | with_reducible refine e_b ?_ | with_reducible refine e_c ?_ | with_reducible refine e_l ?_ | with_reducible refine e_tup ?_ | with_reducible refine e_call ?_ | with_reducible refine e_and ?_ | with_reducible refine e_or ?_ | with_reducible refine e_not ?_ | with_reducible refine e_if ?_ | with_reducible refine e_sl ?_ | with_reducible refine o_n ?_ | with_reducible refine o_s ?_ | with_reducible refine a_nil ?_ | with_reducible refine a_cons ?_ | with_reducible refine f_lst ?_ | with_reducible refine f_call ?_ | with_reducible refine f_itA ?_ | with_reducible refine f_r1 ?_ | with_reducible refine r_seq ?_ | with_reducible refine n_add ?_ | with_reducible refine n_sub ?_ | with_reducible refine n_gt ?_ | with_reducible refine n_ge ?_ | with_reducible refine n_lt ?_ | with_reducible refine n_le ?_ | with_reducible refine e_var (by with_unfolding_all rfl) ?_ | with_reducible refine e_ixc (by with_unfolding_all rfl) ?_ | with_reducible refine e_callM (by with_unfolding_all rfl) ?_ | with_reducible refine s_frz (by with_unfolding_all rfl) ?_ | with_reducible refine s_app (by with_unfolding_all rfl) ?_ | with_reducible refine few_and (by first | decide | (simp only [List.length_cons, List.length_nil, Nat.reduceAdd, Nat.reduceLeDiff])) ?_ | refine Or.inl ⟨by first | with_reducible rfl | with_reducible exact Bool.not_false, ?_⟩ | refine Or.inr ⟨by first | with_reducible rfl | with_reducible exact Bool.not_true, ?_⟩ | refine Exists.intro _ (Exists.intro _ ⟨rfl, rfl, gd rfl ?_⟩) | refine Exists.intro _ ⟨rfl, ?_⟩)
    refine n_divN gn (by omega) ?_
    repeat (first | with_reducible refine s_seq ?_ | with_reducible refine s_if ?_ | with_reducible refine s_set ?_ | with_reducible refine s_setIx ?_ | with_reducible refine s_ret ?_ | with_reducible refine s_nil ?_ | with_reducible refine s_own ?_ | with_reducible refine s_par ?_ | with_reducible refine t_tst ?_ | with_reducible refine t_and ?_ | with_reducible refine t_or ?_ | with_reducible refine t_not ?_ | with_reducible refine t_yes ?_ | with_reducible refine e_op ?_ | with_reducible refine e_un ?_ | with_reducible refine e_chain ?_ | with_reducible refine e_b ?_ | with_reducible refine e_c ?_ | with_reducible refine e_l ?_ | with_reducible refine e_tup ?_ | with_reducible refine e_call ?_ | with_reducible refine e_and ?_ | with_reducible refine e_or ?_ | with_reducible refine e_not ?_ | with_reducible refine e_if ?_ | with_reducible refine e_sl ?_ | with_reducible refine o_n ?_ | with_reducible refine o_s ?_ | with_reducible refine a_nil ?_ | with_reducible refine a_cons ?_ | with_reducible refine f_lst ?_ | with_reducible refine f_call ?_ | with_reducible refine f_itA ?_ | with_reducible refine f_r1 ?_ | with_reducible refine r_seq ?_ | with_reducible refine n_add ?_ | with_reducible refine n_sub ?_ | with_reducible refine n_gt ?_ | with_reducible refine n_ge ?_ | with_reducible refine n_lt ?_ | with_reducible refine n_le ?_ | with_reducible refine e_var (by with_unfolding_all rfl) ?_ | with_reducible refine e_ixc (by with_unfolding_all rfl) ?_ | with_reducible refine e_callM (by with_unfolding_all rfl) ?_ | with_reducible refine s_frz (by with_unfolding_all rfl) ?_ | with_reducible refine s_app (by with_unfolding_all rfl) ?_ | with_reducible refine few_and (by first | decide | (simp only [List.length_cons, List.length_nil, Nat.reduceAdd, Nat.reduceLeDiff])) ?_ | refine Or.inl ⟨by first | with_reducible rfl | with_reducible exact Bool.not_false, ?_⟩ | refine Or.inr ⟨by first | with_reducible rfl | with_reducible exact Bool.not_true, ?_⟩ | refine Exists.intro _ (Exists.intro _ ⟨rfl, rfl, gd rfl ?_⟩) | refine Exists.intro _ ⟨rfl, ?_⟩)
    rfl
  repeat (first | with_reducible refine s_seq ?_ | with_reducible refine s_if ?_ | with_reducible refine s_set ?_ | with_reducible refine s_setIx ?_ | with_reducible refine s_ret ?_ | with_reducible refine s_nil ?_ | with_reducible refine s_own ?_ | with_reducible refine s_par ?_ | with_reducible refine t_tst ?_ | with_reducible refine t_and ?_ | with_reducible refine t_or ?_ | with_reducible refine t_not ?_ | with_reducible refine t_yes ?_ | with_reducible refine e_op ?_ | with_reducible refine e_un ?_ | with_reducible refine e_chain ?_ | with_reducible refine e_b ?_ | with_reducible refine e_c ?_ | with_reducible refine e_l ?_ | with_reducible refine e_tup ?_ | with_reducible refine e_call ?_ | with_reducible refine e_and ?_ | with_reducible refine e_or ?_ | with_reducible refine e_not ?_ | with_reducible refine e_if ?_ | with_reducible refine e_sl ?_ | with_reducible refine o_n ?_ | with_reducible refine o_s ?_ | with_reducible refine a_nil ?_ | with_reducible refine a_cons ?_ | with_reducible refine f_lst ?_ | with_reducible refine f_call ?_ | with_reducible refine f_itA ?_ | with_reducible refine f_r1 ?_ | with_reducible refine r_seq ?_ | with_reducible refine n_add ?_ | with_reducible refine n_sub ?_ | with_reducible refine n_gt ?_ | with_reducible refine n_ge ?_ | with_reducible refine n_lt ?_ | with_reducible refine n_le ?_ | with_reducible refine e_var (by with_unfolding_all rfl) ?_ | with_reducible refine e_ixc (by with_unfolding_all rfl) ?_ | with_reducible refine e_callM (by with_unfolding_all rfl) ?_ | with_reducible refine s_frz (by with_unfolding_all rfl) ?_ | with_reducible refine s_app (by with_unfolding_all rfl) ?_ | with_reducible refine few_and (by first | decide | (simp only [List.length_cons, List.length_nil, Nat.reduceAdd, Nat.reduceLeDiff])) ?_ | refine Or.inl ⟨by first | with_reducible rfl | with_reducible exact Bool.not_false, ?_⟩ | refine Or.inr ⟨by first | with_reducible rfl | with_reducible exact Bool.not_true, ?_⟩ | refine Exists.intro _ (Exists.intro _ ⟨rfl, rfl, gd rfl ?_⟩) | refine Exists.intro _ ⟨rfl, ?_⟩)
  by_cases c : 0 < q
  · refine .inl ⟨decide_eq_true c, ?_⟩
    repeat (first | with_reducible refine s_seq ?_ | with_reducible refine s_if ?_ | with_reducible refine s_set ?_ | with_reducible refine s_setIx ?_ | with_reducible refine s_ret ?_ | with_reducible refine s_nil ?_ | with_reducible refine s_own ?_ | with_reducible refine s_par ?_ | with_reducible refine t_tst ?_ | with_reducible refine t_and ?_ | with_reducible refine t_or ?_ | with_reducible refine t_not ?_ | with_reducible refine t_yes ?_ | with_reducible refine e_op ?_ | with_reducible refine e_un ?_ | with_reducible refine e_chain ?_ | with_reducible refine e_b ?_ | with_reducible refine e_c ?_ | with_reducible refine e_l ?_ | with_reducible refine e_tup ?_ | with_reducible refine e_call ?_ | with_reducible refine e_and ?_ | with_reducible refine e_or ?_ | with_reducible refine e_not ?_ | with_reducible refine e_if ?_ | with_reducible refine e_sl ?_ | with_reducible refine o_n ?_ | with_reducible refine o_s ?_ | with_reducible refine a_nil ?_ | with_reducible refine a_cons ?_ | with_reducible refine f_lst ?_ | with_reducible refine f_call ?_ | with_reducible refine f_itA ?_ | with_reducible refine f_r1 ?_ | with_reducible refine r_seq ?_ | with_reducible refine n_add ?_ | with_reducible refine n_sub ?_ | with_reducible refine n_gt ?_ | with_reducible refine n_ge ?_ | with_reducible refine n_lt ?_ | with_reducible refine n_le ?_ | with_reducible refine e_var (by with_unfolding_all rfl) ?_ | with_reducible refine e_ixc (by with_unfolding_all rfl) ?_ | with_reducible refine e_callM (by with_unfolding_all rfl) ?_ | with_reducible refine s_frz (by with_unfolding_all rfl) ?_ | with_reducible refine s_app (by with_unfolding_all rfl) ?_ | with_reducible refine few_and (by first | decide | (simp only [List.length_cons, List.length_nil, Nat.reduceAdd, Nat.reduceLeDiff])) ?_ | refine Or.inl ⟨by first | with_reducible rfl | with_reducible exact Bool.not_false, ?_⟩ | refine Or.inr ⟨by first | with_reducible rfl | with_reducible exact Bool.not_true, ?_⟩ | refine Exists.intro _ (Exists.intro _ ⟨rfl, rfl, gd rfl ?_⟩) | refine Exists.intro _ ⟨rfl, ?_⟩)
    refine gd (a := .int ((Nat.gcd p.natAbs q.natAbs : Nat) : Int)) rfl ?_
    repeat (first | exact fin _ (by unfold G; rw [if_pos c]) | (first | with_reducible refine s_seq ?_ | with_reducible refine s_if ?_ | with_reducible refine s_set ?_ | with_reducible refine s_setIx ?_ | with_reducible refine s_ret ?_ | with_reducible refine s_nil ?_ | with_reducible refine s_own ?_ | with_reducible refine s_par ?_ | with_reducible refine t_tst ?_ | with_reducible refine t_and ?_ | with_reducible refine t_or ?_ | with_reducible refine t_not ?_ | with_reducible refine t_yes ?_ | with_reducible refine e_op ?_ | with_reducible refine e_un ?_ | with_reducible refine e_chain ?_ | with_reducible refine e_b ?_ | with_reducible refine e_c ?_ | with_reducible refine e_l ?_ | with_reducible refine e_tup ?_ | with_reducible refine e_call ?_ | with_reducible refine e_and ?_ | with_reducible refine e_or ?_ | with_reducible refine e_not ?_ | with_reducible refine e_if ?_ | with_reducible refine e_sl ?_ | with_reducible refine o_n ?_ | with_reducible refine o_s ?_ | with_reducible refine a_nil ?_ | with_reducible refine a_cons ?_ | with_reducible refine f_lst ?_ | with_reducible refine f_call ?_ | with_reducible refine f_itA ?_ | with_reducible refine f_r1 ?_ | with_reducible refine r_seq ?_ | with_reducible refine n_add ?_ | with_reducible refine n_sub ?_ | with_reducible refine n_gt ?_ | with_reducible refine n_ge ?_ | with_reducible refine n_lt ?_ | with_reducible refine n_le ?_ | with_reducible refine e_var (by with_unfolding_all rfl) ?_ | with_reducible refine e_ixc (by with_unfolding_all rfl) ?_ | with_reducible refine e_callM (by with_unfolding_all rfl) ?_ | with_reducible refine s_frz (by with_unfolding_all rfl) ?_ | with_reducible refine s_app (by with_unfolding_all rfl) ?_ | with_reducible refine few_and (by first | decide | (simp only [List.length_cons, List.length_nil, Nat.reduceAdd, Nat.reduceLeDiff])) ?_ | refine Or.inl ⟨by first | with_reducible rfl | with_reducible exact Bool.not_false, ?_⟩ | refine Or.inr ⟨by first | with_reducible rfl | with_reducible exact Bool.not_true, ?_⟩ | refine Exists.intro _ (Exists.intro _ ⟨rfl, rfl, gd rfl ?_⟩) | refine Exists.intro _ ⟨rfl, ?_⟩))
  · refine .inr ⟨decide_eq_false c, ?_⟩
    repeat (first | with_reducible refine s_seq ?_ | with_reducible refine s_if ?_ | with_reducible refine s_set ?_ | with_reducible refine s_setIx ?_ | with_reducible refine s_ret ?_ | with_reducible refine s_nil ?_ | with_reducible refine s_own ?_ | with_reducible refine s_par ?_ | with_reducible refine t_tst ?_ | with_reducible refine t_and ?_ | with_reducible refine t_or ?_ | with_reducible refine t_not ?_ | with_reducible refine t_yes ?_ | with_reducible refine e_op ?_ | with_reducible refine e_un ?_ | with_reducible refine e_chain ?_ | with_reducible refine e_b ?_ | with_reducible refine e_c ?_ | with_reducible refine e_l ?_ | with_reducible refine e_tup ?_ | with_reducible refine e_call ?_ | with_reducible refine e_and ?_ | with_reducible refine e_or ?_ | with_reducible refine e_not ?_ | with_reducible refine e_if ?_ | with_reducible refine e_sl ?_ | with_reducible refine o_n ?_ | with_reducible refine o_s ?_ | with_reducible refine a_nil ?_ | with_reducible refine a_cons ?_ | with_reducible refine f_lst ?_ | with_reducible refine f_call ?_ | with_reducible refine f_itA ?_ | with_reducible refine f_r1 ?_ | with_reducible refine r_seq ?_ | with_reducible refine n_add ?_ | with_reducible refine n_sub ?_ | with_reducible refine n_gt ?_ | with_reducible refine n_ge ?_ | with_reducible refine n_lt ?_ | with_reducible refine n_le ?_ | with_reducible refine e_var (by with_unfolding_all rfl) ?_ | with_reducible refine e_ixc (by with_unfolding_all rfl) ?_ | with_reducible refine e_callM (by with_unfolding_all rfl) ?_ | with_reducible refine s_frz (by with_unfolding_all rfl) ?_ | with_reducible refine s_app (by with_unfolding_all rfl) ?_ | with_reducible refine few_and (by first | decide | (simp only [List.length_cons, List.length_nil, Nat.reduceAdd, Nat.reduceLeDiff])) ?_ | refine Or.inl ⟨by first | with_reducible rfl | with_reducible exact Bool.not_false, ?_⟩ | refine Or.inr ⟨by first | with_reducible rfl | with_reducible exact Bool.not_true, ?_⟩ | refine Exists.intro _ (Exists.intro _ ⟨rfl, rfl, gd rfl ?_⟩) | refine Exists.intro _ ⟨rfl, ?_⟩)
    refine gd (a := .int ((Nat.gcd p.natAbs q.natAbs : Nat) : Int)) rfl ?_
    repeat (first | with_reducible refine s_seq ?_ | with_reducible refine s_if ?_ | with_reducible refine s_set ?_ | with_reducible refine s_setIx ?_ | with_reducible refine s_ret ?_ | with_reducible refine s_nil ?_ | with_reducible refine s_own ?_ | with_reducible refine s_par ?_ | with_reducible refine t_tst ?_ | with_reducible refine t_and ?_ | with_reducible refine t_or ?_ | with_reducible refine t_not ?_ | with_reducible refine t_yes ?_ | with_reducible refine e_op ?_ | with_reducible refine e_un ?_ | with_reducible refine e_chain ?_ | with_reducible refine e_b ?_ | with_reducible refine e_c ?_ | with_reducible refine e_l ?_ | with_reducible refine e_tup ?_ | with_reducible refine e_call ?_ | with_reducible refine e_and ?_ | with_reducible refine e_or ?_ | with_reducible refine e_not ?_ | with_reducible refine e_if ?_ | with_reducible refine e_sl ?_ | with_reducible refine o_n ?_ | with_reducible refine o_s ?_ | with_reducible refine a_nil ?_ | with_reducible refine a_cons ?_ | with_reducible refine f_lst ?_ | with_reducible refine f_call ?_ | with_reducible refine f_itA ?_ | with_reducible refine f_r1 ?_ | with_reducible refine r_seq ?_ | with_reducible refine n_add ?_ | with_reducible refine n_sub ?_ | with_reducible refine n_gt ?_ | with_reducible refine n_ge ?_ | with_reducible refine n_lt ?_ | with_reducible refine n_le ?_ | with_reducible refine e_var (by with_unfolding_all rfl) ?_ | with_reducible refine e_ixc (by with_unfolding_all rfl) ?_ | with_reducible refine e_callM (by with_unfolding_all rfl) ?_ | with_reducible refine s_frz (by with_unfolding_all rfl) ?_ | with_reducible refine s_app (by with_unfolding_all rfl) ?_ | with_reducible refine few_and (by first | decide | (simp only [List.length_cons, List.length_nil, Nat.reduceAdd, Nat.reduceLeDiff])) ?_ | refine Or.inl ⟨by first | with_reducible rfl | with_reducible exact Bool.not_false, ?_⟩ | refine Or.inr ⟨by first | with_reducible rfl | with_reducible exact Bool.not_true, ?_⟩ | refine Exists.intro _ (Exists.intro _ ⟨rfl, rfl, gd rfl ?_⟩) | refine Exists.intro _ ⟨rfl, ?_⟩)
    refine gd (a := .int (-((Nat.gcd p.natAbs q.natAbs : Nat) : Int))) rfl ?_
    repeat (first | exact fin _ (by unfold G; rw [if_neg c]) | (first | with_reducible refine s_seq ?_ | with_reducible refine s_if ?_ | with_reducible refine s_set ?_ | with_reducible refine s_setIx ?_ | with_reducible refine s_ret ?_ | with_reducible refine s_nil ?_ | with_reducible refine s_own ?_ | with_reducible refine s_par ?_ | with_reducible refine t_tst ?_ | with_reducible refine t_and ?_ | with_reducible refine t_or ?_ | with_reducible refine t_not ?_ | with_reducible refine t_yes ?_ | with_reducible refine e_op ?_ | with_reducible refine e_un ?_ | with_reducible refine e_chain ?_ | with_reducible refine e_b ?_ | with_reducible refine e_c ?_ | with_reducible refine e_l ?_ | with_reducible refine e_tup ?_ | with_reducible refine e_call ?_ | with_reducible refine e_and ?_ | with_reducible refine e_or ?_ | with_reducible refine e_not ?_ | with_reducible refine e_if ?_ | with_reducible refine e_sl ?_ | with_reducible refine o_n ?_ | with_reducible refine o_s ?_ | with_reducible refine a_nil ?_ | with_reducible refine a_cons ?_ | with_reducible refine f_lst ?_ | with_reducible refine f_call ?_ | with_reducible refine f_itA ?_ | with_reducible refine f_r1 ?_ | with_reducible refine r_seq ?_ | with_reducible refine n_add ?_ | with_reducible refine n_sub ?_ | with_reducible refine n_gt ?_ | with_reducible refine n_ge ?_ | with_reducible refine n_lt ?_ | with_reducible refine n_le ?_ | with_reducible refine e_var (by with_unfolding_all rfl) ?_ | with_reducible refine e_ixc (by with_unfolding_all rfl) ?_ | with_reducible refine e_callM (by with_unfolding_all rfl) ?_ | with_reducible refine s_frz (by with_unfolding_all rfl) ?_ | with_reducible refine s_app (by with_unfolding_all rfl) ?_ | with_reducible refine few_and (by first | decide | (simp only [List.length_cons, List.length_nil, Nat.reduceAdd, Nat.reduceLeDiff])) ?_ | refine Or.inl ⟨by first | with_reducible rfl | with_reducible exact Bool.not_false, ?_⟩ | refine Or.inr ⟨by first | with_reducible rfl | with_reducible exact Bool.not_true, ?_⟩ | refine Exists.intro _ (Exists.intro _ ⟨rfl, rfl, gd rfl ?_⟩) | refine Exists.intro _ ⟨rfl, ?_⟩))
theorem law_fraction_ok {p q : Int} (h : q ≠ 0) (hq : q.natAbs < 2 ^ 200) : Gd (m__law_fraction [.int p, .int q]) fun r => r = F p q := by
  have gb := gcd_le (p := p) h
  have gn := G_ne (p := p) h
  have gp := gcd_pos (p := p) h
  have ga := G_abs p q
  unfold m__law_fraction
  refine m_fnP rfl ?_
  unfold b__law_fraction
  have fin : ∀ x : Int, x = G p q → ∀ v : SV, Gs (sRet (dTup (aCons (dOp gDivA (dVar 0) (dVar 2)) (aCons (dOp gDivA (dVar 1) (dVar 2)) aNil))) [.dat (.int p), .dat (.int q), .dat (.int x), v]) (fun _ => PyData.none = F p q) (fun d _ => d = F p q) := by
    intro x hx v
    subst hx
    repeat (first | with_reducible refine s_seq ?_ | with_reducible refine s_if ?_ | with_reducible refine s_set ?_ | with_reducible refine s_setIx ?_ | with_reducible refine s_ret ?_ | with_reducible refine s_nil ?_ | with_reducible refine s_own ?_ | with_reducible refine s_par ?_ | with_reducible refine t_tst ?_ | with_reducible refine t_and ?_ | with_reducible refine t_or ?_ | with_reducible refine t_not ?_ | with_reducible refine t_yes ?_ | with_reducible refine e_op ?_ | with_reducible refine e_un ?_ | with_reducible refine e_chain ?_ | with_reducible refine e_b ?_ | with_reducible refine e_c ?_ | with_reducible refine e_l ?_ | with_reducible refine e_tup ?_ | with_reducible refine e_call ?_ | with_reducible refine e_and ?_ | with_reducible refine e_or ?_ | with_reducible refine e_not ?_ | with_reducible refine e_if ?_ | with_reducible refine e_sl ?_ | with_reducible refine o_n ?_ | with_reducible refine o_s ?_ | with_reducible refine a_nil ?_ | with_reducible refine a_cons ?_ | with_reducible refine f_lst ?_ | with_reducible refine f_call ?_ | with_reducible refine f_itA ?_ | with_reducible refine f_r1 ?_ | with_reducible refine r_seq ?_ | with_reducible refine n_add ?_ | with_reducible refine n_sub ?_ | with_reducible refine n_gt ?_ | with_reducible refine n_ge ?_ | with_reducible refine n_lt ?_ | with_reducible refine n_le ?_ | with_reducible refine e_var (by with_unfolding_all rfl) ?_ | with_reducible refine e_ixc (by with_unfolding_all rfl) ?_ | with_reducible refine e_callM (by with_unfolding_all rfl) ?_ | with_reducible refine s_frz (by with_unfolding_all rfl) ?_ | with_reducible refine s_app (by with_unfolding_all rfl) ?_ | with_reducible refine few_and (by first | decide | (simp only [List.length_cons, List.length_nil, Nat.reduceAdd, Nat.reduceLeDiff])) ?_ | refine Or.inl ⟨by first | with_reducible rfl | with_reducible exact Bool.not_false, ?_⟩ | refine Or.inr ⟨by first | with_reducible rfl | with_reducible exact Bool.not_true, ?_⟩ | refine Exists.intro _ (Exists.intro _ ⟨rfl, rfl, gd rfl ?_⟩) | refine Exists.intro _ ⟨rfl, ?_⟩)
    refine n_divN gn (by omega) ?_
    repeat (first | with_reducible refine s_seq ?_ | with_reducible refine s_if ?_ | with_reducible refine s_set ?_ | with_reducible refine s_setIx ?_ | with_reducible refine s_ret ?_ | with_reducible refine s_nil ?_ | with_reducible refine s_own ?_ | with_reducible refine s_par ?_ | with_reducible refine t_tst ?_ | with_reducible refine t_and ?_ | with_reducible refine t_or ?_ | with_reducible refine t_not ?_ | with_reducible refine t_yes ?_ | with_reducible refine e_op ?_ | with_reducible refine e_un ?_ | with_reducible refine e_chain ?_ | with_reducible refine e_b ?_ | with_reducible refine e_c ?_ | with_reducible refine e_l ?_ | with_reducible refine e_tup ?_ | with_reducible refine e_call ?_ | with_reducible refine e_and ?_ | with_reducible refine e_or ?_ | with_reducible refine e_not ?_ | with_reducible refine e_if ?_ | with_reducible refine e_sl ?_ | with_reducible refine o_n ?_ | with_reducible refine o_s ?_ | with_reducible refine a_nil ?_ | with_reducible refine a_cons ?_ | with_reducible refine f_lst ?_ | with_reducible refine f_call ?_ | with_reducible refine f_itA ?_ | with_reducible refine f_r1 ?_ | with_reducible refine r_seq ?_ | with_reducible refine n_add ?_ | with_reducible refine n_sub ?_ | with_reducible refine n_gt ?_ | with_reducible refine n_ge ?_ | with_reducible refine n_lt ?_ | with_reducible refine n_le ?_ | with_reducible refine e_var (by with_unfolding_all rfl) ?_ | with_reducible refine e_ixc (by with_unfolding_all rfl) ?_ | with_reducible refine e_callM (by with_unfolding_all rfl) ?_ | with_reducible refine s_frz (by with_unfolding_all rfl) ?_ | with_reducible refine s_app (by with_unfolding_all rfl) ?_ | with_reducible refine few_and (by first | decide | (simp only [List.length_cons, List.length_nil, Nat.reduceAdd, Nat.reduceLeDiff])) ?_ | refine Or.inl ⟨by first | with_reducible rfl | with_reducible exact Bool.not_false, ?_⟩ | refine Or.inr ⟨by first | with_reducible rfl | with_reducible exact Bool.not_true, ?_⟩ | refine Exists.intro _ (Exists.intro _ ⟨rfl, rfl, gd rfl ?_⟩) | refine Exists.intro _ ⟨rfl, ?_⟩)
    refine n_divN gn (by omega) ?_
    repeat (first | with_reducible refine s_seq ?_ | with_reducible refine s_if ?_ | with_reducible refine s_set ?_ | with_reducible refine s_setIx ?_ | with_reducible refine s_ret ?_ | with_reducible refine s_nil ?_ | with_reducible refine s_own ?_ | with_reducible refine s_par ?_ | with_reducible refine t_tst ?_ | with_reducible refine t_and ?_ | with_reducible refine t_or ?_ | with_reducible refine t_not ?_ | with_reducible refine t_yes ?_ | with_reducible refine e_op ?_ | with_reducible refine e_un ?_ | with_reducible refine e_chain ?_ | with_reducible refine e_b ?_ | with_reducible refine e_c ?_ | with_reducible refine e_l ?_ | with_reducible refine e_tup ?_ | with_reducible refine e_call ?_ | with_reducible refine e_and ?_ | with_reducible refine e_or ?_ | with_reducible refine e_not ?_ | with_reducible refine e_if ?_ | with_reducible refine e_sl ?_ | with_reducible refine o_n ?_ | with_reducible refine o_s ?_ | with_reducible refine a_nil ?_ | with_reducible refine a_cons ?_ | with_reducible refine f_lst ?_ | with_reducible refine f_call ?_ | with_reducible refine f_itA ?_ | with_reducible refine f_r1 ?_ | with_reducible refine r_seq ?_ | with_reducible refine n_add ?_ | with_reducible refine n_sub ?_ | with_reducible refine n_gt ?_ | with_reducible refine n_ge ?_ | with_reducible refine n_lt ?_ | with_reducible refine n_le ?_ | with_reducible refine e_var (by with_unfolding_all rfl) ?_ | with_reducible refine e_ixc (by with_unfolding_all rfl) ?_ | with_reducible refine e_callM (by with_unfolding_all rfl) ?_ | with_reducible refine s_frz (by with_unfolding_all rfl) ?_ | with_reducible refine s_app (by with_unfolding_all rfl) ?_ | with_reducible refine few_and (by first | decide | (simp only [List.length_cons, List.length_nil, Nat.reduceAdd, Nat.reduceLeDiff])) ?_ | refine Or.inl ⟨by first | with_reducible rfl | with_reducible exact Bool.not_false, ?_⟩ | refine Or.inr ⟨by first | with_reducible rfl | with_reducible exact Bool.not_true, ?_⟩ | refine Exists.intro _ (Exists.intro _ ⟨rfl, rfl, gd rfl ?_⟩) | refine Exists.intro _ ⟨rfl, ?_⟩)
    rfl
  repeat (first | with_reducible refine s_seq ?_ | with_reducible refine s_if ?_ | with_reducible refine s_set ?_ | with_reducible refine s_setIx ?_ | with_reducible refine s_ret ?_ | with_reducible refine s_nil ?_ | with_reducible refine s_own ?_ | with_reducible refine s_par ?_ | with_reducible refine t_tst ?_ | with_reducible refine t_and ?_ | with_reducible refine t_or ?_ | with_reducible refine t_not ?_ | with_reducible refine t_yes ?_ | with_reducible refine e_op ?_ | with_reducible refine e_un ?_ | with_reducible refine e_chain ?_ | with_reducible refine e_b ?_ | with_reducible refine e_c ?_ | with_reducible refine e_l ?_ | with_reducible refine e_tup ?_ | with_reducible refine e_call ?_ | with_reducible refine e_and ?_ | with_reducible refine e_or ?_ | with_reducible refine e_not ?_ | with_reducible refine e_if ?_ | with_reducible refine e_sl ?_ | with_reducible refine o_n ?_ | with_reducible refine o_s ?_ | with_reducible refine a_nil ?_ | with_reducible refine a_cons ?_ | with_reducible refine f_lst ?_ | with_reducible refine f_call ?_ | with_reducible refine f_itA ?_ | with_reducible refine f_r1 ?_ | with_reducible refine r_seq ?_ | with_reducible refine n_add ?_ | with_reducible refine n_sub ?_ | with_reducible refine n_gt ?_ | with_reducible refine n_ge ?_ | with_reducible refine n_lt ?_ | with_reducible refine n_le ?_ | with_reducible refine e_var (by with_unfolding_all rfl) ?_ | with_reducible refine e_ixc (by with_unfolding_all rfl) ?_ | with_reducible refine e_callM (by with_unfolding_all rfl) ?_ | with_reducible refine s_frz (by with_unfolding_all rfl) ?_ | with_reducible refine s_app (by with_unfolding_all rfl) ?_ | with_reducible refine few_and (by first | decide | (simp only [List.length_cons, List.length_nil, Nat.reduceAdd, Nat.reduceLeDiff])) ?_ | refine Or.inl ⟨by first | with_reducible rfl | with_reducible exact Bool.not_false, ?_⟩ | refine Or.inr ⟨by first | with_reducible rfl | with_reducible exact Bool.not_true, ?_⟩ | refine Exists.intro _ (Exists.intro _ ⟨rfl, rfl, gd rfl ?_⟩) | refine Exists.intro _ ⟨rfl, ?_⟩)
  refine gd (a := .int ((p.natAbs : Nat) : Int)) (by show some (PyData.int (if p < 0 then -p else p)) = _; split <;> (congr 2; omega)) ?_
  repeat (first | with_reducible refine s_seq ?_ | with_reducible refine s_if ?_ | with_reducible refine s_set ?_ | with_reducible refine s_setIx ?_ | with_reducible refine s_ret ?_ | with_reducible refine s_nil ?_ | with_reducible refine s_own ?_ | with_reducible refine s_par ?_ | with_reducible refine t_tst ?_ | with_reducible refine t_and ?_ | with_reducible refine t_or ?_ | with_reducible refine t_not ?_ | with_reducible refine t_yes ?_ | with_reducible refine e_op ?_ | with_reducible refine e_un ?_ | with_reducible refine e_chain ?_ | with_reducible refine e_b ?_ | with_reducible refine e_c ?_ | with_reducible refine e_l ?_ | with_reducible refine e_tup ?_ | with_reducible refine e_call ?_ | with_reducible refine e_and ?_ | with_reducible refine e_or ?_ | with_reducible refine e_not ?_ | with_reducible refine e_if ?_ | with_reducible refine e_sl ?_ | with_reducible refine o_n ?_ | with_reducible refine o_s ?_ | with_reducible refine a_nil ?_ | with_reducible refine a_cons ?_ | with_reducible refine f_lst ?_ | with_reducible refine f_call ?_ | with_reducible refine f_itA ?_ | with_reducible refine f_r1 ?_ | with_reducible refine r_seq ?_ | with_reducible refine n_add ?_ | with_reducible refine n_sub ?_ | with_reducible refine n_gt ?_ | with_reducible refine n_ge ?_ | with_reducible refine n_lt ?_ | with_reducible refine n_le ?_ | with_reducible refine e_var (by with_unfolding_all rfl) ?_ | with_reducible refine e_ixc (by with_unfolding_all rfl) ?_ | with_reducible refine e_callM (by with_unfolding_all rfl) ?_ | with_reducible refine s_frz (by with_unfolding_all rfl) ?_ | with_reducible refine s_app (by with_unfolding_all rfl) ?_ | with_reducible refine few_and (by first | decide | (simp only [List.length_cons, List.length_nil, Nat.reduceAdd, Nat.reduceLeDiff])) ?_ | refine Or.inl ⟨by first | with_reducible rfl | with_reducible exact Bool.not_false, ?_⟩ | refine Or.inr ⟨by first | with_reducible rfl | with_reducible exact Bool.not_true, ?_⟩ | refine Exists.intro _ (Exists.intro _ ⟨rfl, rfl, gd rfl ?_⟩) | refine Exists.intro _ ⟨rfl, ?_⟩)
  refine gd (a := .int ((q.natAbs : Nat) : Int)) (by show some (PyData.int (if q < 0 then -q else q)) = _; split <;> (congr 2; omega)) ?_
  repeat (first | with_reducible refine s_seq ?_ | with_reducible refine s_if ?_ | with_reducible refine s_set ?_ | with_reducible refine s_setIx ?_ | with_reducible refine s_ret ?_ | with_reducible refine s_nil ?_ | with_reducible refine s_own ?_ | with_reducible refine s_par ?_ | with_reducible refine t_tst ?_ | with_reducible refine t_and ?_ | with_reducible refine t_or ?_ | with_reducible refine t_not ?_ | with_reducible refine t_yes ?_ | with_reducible refine e_op ?_ | with_reducible refine e_un ?_ | with_reducible refine e_chain ?_ | with_reducible refine e_b ?_ | with_reducible refine e_c ?_ | with_reducible refine e_l ?_ | with_reducible refine e_tup ?_ | with_reducible refine e_call ?_ | with_reducible refine e_and ?_ | with_reducible refine e_or ?_ | with_reducible refine e_not ?_ | with_reducible refine e_if ?_ | with_reducible refine e_sl ?_ | with_reducible refine o_n ?_ | with_reducible refine o_s ?_ | with_reducible refine a_nil ?_ | with_reducible refine a_cons ?_ | with_reducible refine f_lst ?_ | with_reducible refine f_call ?_ | with_reducible refine f_itA ?_ | with_reducible refine f_r1 ?_ | with_reducible refine r_seq ?_ | with_reducible refine n_add ?_ | with_reducible refine n_sub ?_ | with_reducible refine n_gt ?_ | with_reducible refine n_ge ?_ | with_reducible refine n_lt ?_ | with_reducible refine n_le ?_ | with_reducible refine e_var (by with_unfolding_all rfl) ?_ | with_reducible refine e_ixc (by with_unfolding_all rfl) ?_ | with_reducible refine e_callM (by with_unfolding_all rfl) ?_ | with_reducible refine s_frz (by with_unfolding_all rfl) ?_ | with_reducible refine s_app (by with_unfolding_all rfl) ?_ | with_reducible refine few_and (by first | decide | (simp only [List.length_cons, List.length_nil, Nat.reduceAdd, Nat.reduceLeDiff])) ?_ | refine Or.inl ⟨by first | with_reducible rfl | with_reducible exact Bool.not_false, ?_⟩ | refine Or.inr ⟨by first | with_reducible rfl | with_reducible exact Bool.not_true, ?_⟩ | refine Exists.intro _ (Exists.intro _ ⟨rfl, rfl, gd rfl ?_⟩) | refine Exists.intro _ ⟨rfl, ?_⟩)
  refine s_while (I := fun m s => ∃ x y : Nat, y = m ∧ Nat.gcd x y = Nat.gcd p.natAbs q.natAbs ∧ s = [.dat (.int p), .dat (.int q), .dat (.int (x : Int)), .dat (.int (y : Int))]) ⟨q.natAbs, Nat.lt_of_lt_of_le hq (by unfold bigF; exact Nat.pow_le_pow_right (by decide) (by decide)), p.natAbs, q.natAbs, rfl, rfl, rfl⟩ (fun m s hI => ?_)
  obtain ⟨x, y, rfl, hg, rfl⟩ := hI
  repeat (first | with_reducible refine s_seq ?_ | with_reducible refine s_if ?_ | with_reducible refine s_set ?_ | with_reducible refine s_setIx ?_ | with_reducible refine s_ret ?_ | with_reducible refine s_nil ?_ | with_reducible refine s_own ?_ | with_reducible refine s_par ?_ | with_reducible refine t_tst ?_ | with_reducible refine t_and ?_ | with_reducible refine t_or ?_ | with_reducible refine t_not ?_ | with_reducible refine t_yes ?_ | with_reducible refine e_op ?_ | with_reducible refine e_un ?_ | with_reducible refine e_chain ?_ | with_reducible refine e_b ?_ | with_reducible refine e_c ?_ | with_reducible refine e_l ?_ | with_reducible refine e_tup ?_ | with_reducible refine e_call ?_ | with_reducible refine e_and ?_ | with_reducible refine e_or ?_ | with_reducible refine e_not ?_ | with_reducible refine e_if ?_ | with_reducible refine e_sl ?_ | with_reducible refine o_n ?_ | with_reducible refine o_s ?_ | with_reducible refine a_nil ?_ | with_reducible refine a_cons ?_ | with_reducible refine f_lst ?_ | with_reducible refine f_call ?_ | with_reducible refine f_itA ?_ | with_reducible refine f_r1 ?_ | with_reducible refine r_seq ?_ | with_reducible refine n_add ?_ | with_reducible refine n_sub ?_ | with_reducible refine n_gt ?_ | with_reducible refine n_ge ?_ | with_reducible refine n_lt ?_ | with_reducible refine n_le ?_ | with_reducible refine e_var (by with_unfolding_all rfl) ?_ | with_reducible refine e_ixc (by with_unfolding_all rfl) ?_ | with_reducible refine e_callM (by with_unfolding_all rfl) ?_ | with_reducible refine s_frz (by with_unfolding_all rfl) ?_ | with_reducible refine s_app (by with_unfolding_all rfl) ?_ | with_reducible refine few_and (by first | decide | (simp only [List.length_cons, List.length_nil, Nat.reduceAdd, Nat.reduceLeDiff])) ?_ | refine Or.inl ⟨by first | with_reducible rfl | with_reducible exact Bool.not_false, ?_⟩ | refine Or.inr ⟨by first | with_reducible rfl | with_reducible exact Bool.not_true, ?_⟩ | refine Exists.intro _ (Exists.intro _ ⟨rfl, rfl, gd rfl ?_⟩) | refine Exists.intro _ ⟨rfl, ?_⟩)
  by_cases c : (0 : Int) < (y : Int)
  · refine .inl ⟨decide_eq_true c, ?_⟩
    repeat (first | with_reducible refine s_seq ?_ | with_reducible refine s_if ?_ | with_reducible refine s_set ?_ | with_reducible refine s_setIx ?_ | with_reducible refine s_ret ?_ | with_reducible refine s_nil ?_ | with_reducible refine s_own ?_ | with_reducible refine s_par ?_ | with_reducible refine t_tst ?_ | with_reducible refine t_and ?_ | with_reducible refine t_or ?_ | with_reducible refine t_not ?_ | with_reducible refine t_yes ?_ | with_reducible refine e_op ?_ | with_reducible refine e_un ?_ | with_reducible refine e_chain ?_ | with_reducible refine e_b ?_ | with_reducible refine e_c ?_ | with_reducible refine e_l ?_ | with_reducible refine e_tup ?_ | with_reducible refine e_call ?_ | with_reducible refine e_and ?_ | with_reducible refine e_or ?_ | with_reducible refine e_not ?_ | with_reducible refine e_if ?_ | with_reducible refine e_sl ?_ | with_reducible refine o_n ?_ | with_reducible refine o_s ?_ | with_reducible refine a_nil ?_ | with_reducible refine a_cons ?_ | with_reducible refine f_lst ?_ | with_reducible refine f_call ?_ | with_reducible refine f_itA ?_ | with_reducible refine f_r1 ?_ | with_reducible refine r_seq ?_ | with_reducible refine n_add ?_ | with_reducible refine n_sub ?_ | with_reducible refine n_gt ?_ | with_reducible refine n_ge ?_ | with_reducible refine n_lt ?_ | with_reducible refine n_le ?_ | with_reducible refine e_var (by with_unfolding_all rfl) ?_ | with_reducible refine e_ixc (by with_unfolding_all rfl) ?_ | with_reducible refine e_callM (by with_unfolding_all rfl) ?_ | with_reducible refine s_frz (by with_unfolding_all rfl) ?_ | with_reducible refine s_app (by with_unfolding_all rfl) ?_ | with_reducible refine few_and (by first | decide | (simp only [List.length_cons, List.length_nil, Nat.reduceAdd, Nat.reduceLeDiff])) ?_ | refine Or.inl ⟨by first | with_reducible rfl | with_reducible exact Bool.not_false, ?_⟩ | refine Or.inr ⟨by first | with_reducible rfl | with_reducible exact Bool.not_true, ?_⟩ | refine Exists.intro _ (Exists.intro _ ⟨rfl, rfl, gd rfl ?_⟩) | refine Exists.intro _ ⟨rfl, ?_⟩)
    refine n_mod c fun l1 l2 => ?_
    repeat (first | with_reducible refine s_seq ?_ | with_reducible refine s_if ?_ | with_reducible refine s_set ?_ | with_reducible refine s_setIx ?_ | with_reducible refine s_ret ?_ | with_reducible refine s_nil ?_ | with_reducible refine s_own ?_ | with_reducible refine s_par ?_ | with_reducible refine t_tst ?_ | with_reducible refine t_and ?_ | with_reducible refine t_or ?_ | with_reducible refine t_not ?_ | with_reducible refine t_yes ?_ | with_reducible refine e_op ?_ | with_reducible refine e_un ?_ | with_reducible refine e_chain ?_ | with_reducible refine e_b ?_ | with_reducible refine e_c ?_ | with_reducible refine e_l ?_ | with_reducible refine e_tup ?_ | with_reducible refine e_call ?_ | with_reducible refine e_and ?_ | with_reducible refine e_or ?_ | with_reducible refine e_not ?_ | with_reducible refine e_if ?_ | with_reducible refine e_sl ?_ | with_reducible refine o_n ?_ | with_reducible refine o_s ?_ | with_reducible refine a_nil ?_ | with_reducible refine a_cons ?_ | with_reducible refine f_lst ?_ | with_reducible refine f_call ?_ | with_reducible refine f_itA ?_ | with_reducible refine f_r1 ?_ | with_reducible refine r_seq ?_ | with_reducible refine n_add ?_ | with_reducible refine n_sub ?_ | with_reducible refine n_gt ?_ | with_reducible refine n_ge ?_ | with_reducible refine n_lt ?_ | with_reducible refine n_le ?_ | with_reducible refine e_var (by with_unfolding_all rfl) ?_ | with_reducible refine e_ixc (by with_unfolding_all rfl) ?_ | with_reducible refine e_callM (by with_unfolding_all rfl) ?_ | with_reducible refine s_frz (by with_unfolding_all rfl) ?_ | with_reducible refine s_app (by with_unfolding_all rfl) ?_ | with_reducible refine few_and (by first | decide | (simp only [List.length_cons, List.length_nil, Nat.reduceAdd, Nat.reduceLeDiff])) ?_ | refine Or.inl ⟨by first | with_reducible rfl | with_reducible exact Bool.not_false, ?_⟩ | refine Or.inr ⟨by first | with_reducible rfl | with_reducible exact Bool.not_true, ?_⟩ | refine Exists.intro _ (Exists.intro _ ⟨rfl, rfl, gd rfl ?_⟩) | refine Exists.intro _ ⟨rfl, ?_⟩)
    have yp : 0 < y := by omega
    refine ⟨x % y, Nat.mod_lt _ yp, y, x % y, rfl, ?_, by rw [Int.natCast_emod]; rfl⟩
    rw [← hg, Nat.gcd_comm x y]
    exact (Nat.gcd_comm _ _).trans (Nat.gcd_rec y x).symm
  · refine .inr ⟨decide_eq_false c, ?_⟩
    have y0 : y = 0 := by omega
    subst y0
    rw [Nat.gcd_zero_right] at hg
    subst hg
    repeat (first | with_reducible refine s_seq ?_ | with_reducible refine s_if ?_ | with_reducible refine s_set ?_ | with_reducible refine s_setIx ?_ | with_reducible refine s_ret ?_ | with_reducible refine s_nil ?_ | with_reducible refine s_own ?_ | with_reducible refine s_par ?_ | with_reducible refine t_tst ?_ | with_reducible refine t_and ?_ | with_reducible refine t_or ?_ | with_reducible refine t_not ?_ | with_reducible refine t_yes ?_ | with_reducible refine e_op ?_ | with_reducible refine e_un ?_ | with_reducible refine e_chain ?_ | with_reducible refine e_b ?_ | with_reducible refine e_c ?_ | with_reducible refine e_l ?_ | with_reducible refine e_tup ?_ | with_reducible refine e_call ?_ | with_reducible refine e_and ?_ | with_reducible refine e_or ?_ | with_reducible refine e_not ?_ | with_reducible refine e_if ?_ | with_reducible refine e_sl ?_ | with_reducible refine o_n ?_ | with_reducible refine o_s ?_ | with_reducible refine a_nil ?_ | with_reducible refine a_cons ?_ | with_reducible refine f_lst ?_ | with_reducible refine f_call ?_ | with_reducible refine f_itA ?_ | with_reducible refine f_r1 ?_ | with_reducible refine r_seq ?_ | with_reducible refine n_add ?_ | with_reducible refine n_sub ?_ | with_reducible refine n_gt ?_ | with_reducible refine n_ge ?_ | with_reducible refine n_lt ?_ | with_reducible refine n_le ?_ | with_reducible refine e_var (by with_unfolding_all rfl) ?_ | with_reducible refine e_ixc (by with_unfolding_all rfl) ?_ | with_reducible refine e_callM (by with_unfolding_all rfl) ?_ | with_reducible refine s_frz (by with_unfolding_all rfl) ?_ | with_reducible refine s_app (by with_unfolding_all rfl) ?_ | with_reducible refine few_and (by first | decide | (simp only [List.length_cons, List.length_nil, Nat.reduceAdd, Nat.reduceLeDiff])) ?_ | refine Or.inl ⟨by first | with_reducible rfl | with_reducible exact Bool.not_false, ?_⟩ | refine Or.inr ⟨by first | with_reducible rfl | with_reducible exact Bool.not_true, ?_⟩ | refine Exists.intro _ (Exists.intro _ ⟨rfl, rfl, gd rfl ?_⟩) | refine Exists.intro _ ⟨rfl, ?_⟩)
    by_cases c2 : q < 0
    · refine .inl ⟨decide_eq_true c2, ?_⟩
      repeat (first | exact fin _ (by unfold G; rw [if_neg (by omega)]; omega) _ | (first | with_reducible refine s_seq ?_ | with_reducible refine s_if ?_ | with_reducible refine s_set ?_ | with_reducible refine s_setIx ?_ | with_reducible refine s_ret ?_ | with_reducible refine s_nil ?_ | with_reducible refine s_own ?_ | with_reducible refine s_par ?_ | with_reducible refine t_tst ?_ | with_reducible refine t_and ?_ | with_reducible refine t_or ?_ | with_reducible refine t_not ?_ | with_reducible refine t_yes ?_ | with_reducible refine e_op ?_ | with_reducible refine e_un ?_ | with_reducible refine e_chain ?_ | with_reducible refine e_b ?_ | with_reducible refine e_c ?_ | with_reducible refine e_l ?_ | with_reducible refine e_tup ?_ | with_reducible refine e_call ?_ | with_reducible refine e_and ?_ | with_reducible refine e_or ?_ | with_reducible refine e_not ?_ | with_reducible refine e_if ?_ | with_reducible refine e_sl ?_ | with_reducible refine o_n ?_ | with_reducible refine o_s ?_ | with_reducible refine a_nil ?_ | with_reducible refine a_cons ?_ | with_reducible refine f_lst ?_ | with_reducible refine f_call ?_ | with_reducible refine f_itA ?_ | with_reducible refine f_r1 ?_ | with_reducible refine r_seq ?_ | with_reducible refine n_add ?_ | with_reducible refine n_sub ?_ | with_reducible refine n_gt ?_ | with_reducible refine n_ge ?_ | with_reducible refine n_lt ?_ | with_reducible refine n_le ?_ | with_reducible refine e_var (by with_unfolding_all rfl) ?_ | with_reducible refine e_ixc (by with_unfolding_all rfl) ?_ | with_reducible refine e_callM (by with_unfolding_all rfl) ?_ | with_reducible refine s_frz (by with_unfolding_all rfl) ?_ | with_reducible refine s_app (by with_unfolding_all rfl) ?_ | with_reducible refine few_and (by first | decide | (simp only [List.length_cons, List.length_nil, Nat.reduceAdd, Nat.reduceLeDiff])) ?_ | refine Or.inl ⟨by first | with_reducible rfl | with_reducible exact Bool.not_false, ?_⟩ | refine Or.inr ⟨by first | with_reducible rfl | with_reducible exact Bool.not_true, ?_⟩ | refine Exists.intro _ (Exists.intro _ ⟨rfl, rfl, gd rfl ?_⟩) | refine Exists.intro _ ⟨rfl, ?_⟩))
    · refine .inr ⟨decide_eq_false c2, ?_⟩
      repeat (first | exact fin _ (by unfold G; rw [if_pos (by omega)]) _ | (first | with_reducible refine s_seq ?_ | with_reducible refine s_if ?_ | with_reducible refine s_set ?_ | with_reducible refine s_setIx ?_ | with_reducible refine s_ret ?_ | with_reducible refine s_nil ?_ | with_reducible refine s_own ?_ | with_reducible refine s_par ?_ | with_reducible refine t_tst ?_ | with_reducible refine t_and ?_ | with_reducible refine t_or ?_ | with_reducible refine t_not ?_ | with_reducible refine t_yes ?_ | with_reducible refine e_op ?_ | with_reducible refine e_un ?_ | with_reducible refine e_chain ?_ | with_reducible refine e_b ?_ | with_reducible refine e_c ?_ | with_reducible refine e_l ?_ | with_reducible refine e_tup ?_ | with_reducible refine e_call ?_ | with_reducible refine e_and ?_ | with_reducible refine e_or ?_ | with_reducible refine e_not ?_ | with_reducible refine e_if ?_ | with_reducible refine e_sl ?_ | with_reducible refine o_n ?_ | with_reducible refine o_s ?_ | with_reducible refine a_nil ?_ | with_reducible refine a_cons ?_ | with_reducible refine f_lst ?_ | with_reducible refine f_call ?_ | with_reducible refine f_itA ?_ | with_reducible refine f_r1 ?_ | with_reducible refine r_seq ?_ | with_reducible refine n_add ?_ | with_reducible refine n_sub ?_ | with_reducible refine n_gt ?_ | with_reducible refine n_ge ?_ | with_reducible refine n_lt ?_ | with_reducible refine n_le ?_ | with_reducible refine e_var (by with_unfolding_all rfl) ?_ | with_reducible refine e_ixc (by with_unfolding_all rfl) ?_ | with_reducible refine e_callM (by with_unfolding_all rfl) ?_ | with_reducible refine s_frz (by with_unfolding_all rfl) ?_ | with_reducible refine s_app (by with_unfolding_all rfl) ?_ | with_reducible refine few_and (by first | decide | (simp only [List.length_cons, List.length_nil, Nat.reduceAdd, Nat.reduceLeDiff])) ?_ | refine Or.inl ⟨by first | with_reducible rfl | with_reducible exact Bool.not_false, ?_⟩ | refine Or.inr ⟨by first | with_reducible rfl | with_reducible exact Bool.not_true, ?_⟩ | refine Exists.intro _ (Exists.intro _ ⟨rfl, rfl, gd rfl ?_⟩) | refine Exists.intro _ ⟨rfl, ?_⟩))

/-! ### what is a fraction -/
def wholeD : PyData → Bool
  | .int _ => true
  | _ => false
theorem whole_ok {d : PyData} (h : (tyD d).isSome = true) : Gd (m_is_whole [d]) fun r => r = .bool (wholeD d) := by
  obtain ⟨a, ha⟩ := Option.isSome_iff_exists.mp h
  unfold m_is_whole
  refine m_fnP rfl ?_
  unfold b_is_whole
  repeat (first | with_reducible refine s_seq ?_ | with_reducible refine s_if ?_ | with_reducible refine s_set ?_ | with_reducible refine s_setIx ?_ | with_reducible refine s_ret ?_ | with_reducible refine s_nil ?_ | with_reducible refine s_own ?_ | with_reducible refine s_par ?_ | with_reducible refine t_tst ?_ | with_reducible refine t_and ?_ | with_reducible refine t_or ?_ | with_reducible refine t_not ?_ | with_reducible refine t_yes ?_ | with_reducible refine e_op ?_ | with_reducible refine e_un ?_ | with_reducible refine e_chain ?_ | with_reducible refine e_b ?_ | with_reducible refine e_c ?_ | with_reducible refine e_l ?_ | with_reducible refine e_tup ?_ | with_reducible refine e_call ?_ | with_reducible refine e_and ?_ | with_reducible refine e_or ?_ | with_reducible refine e_not ?_ | with_reducible refine e_if ?_ | with_reducible refine e_sl ?_ | with_reducible refine o_n ?_ | with_reducible refine o_s ?_ | with_reducible refine a_nil ?_ | with_reducible refine a_cons ?_ | with_reducible refine f_lst ?_ | with_reducible refine f_call ?_ | with_reducible refine f_itA ?_ | with_reducible refine f_r1 ?_ | with_reducible refine r_seq ?_ | with_reducible refine n_add ?_ | with_reducible refine n_sub ?_ | with_reducible refine n_gt ?_ | with_reducible refine n_ge ?_ | with_reducible refine n_lt ?_ | with_reducible refine n_le ?_ | with_reducible refine e_var (by with_unfolding_all rfl) ?_ | with_reducible refine e_ixc (by with_unfolding_all rfl) ?_ | with_reducible refine e_callM (by with_unfolding_all rfl) ?_ | with_reducible refine s_frz (by with_unfolding_all rfl) ?_ | with_reducible refine s_app (by with_unfolding_all rfl) ?_ | with_reducible refine few_and (by first | decide | (simp only [List.length_cons, List.length_nil, Nat.reduceAdd, Nat.reduceLeDiff])) ?_ | refine Or.inl ⟨by first | with_reducible rfl | with_reducible exact Bool.not_false, ?_⟩ | refine Or.inr ⟨by first | with_reducible rfl | with_reducible exact Bool.not_true, ?_⟩ | refine Exists.intro _ (Exists.intro _ ⟨rfl, rfl, gd rfl ?_⟩) | refine Exists.intro _ ⟨rfl, ?_⟩)
  cases d with
  | int i =>
    refine gd (a := .bool true) rfl ?_
    repeat (first | with_reducible refine s_seq ?_ | with_reducible refine s_if ?_ | with_reducible refine s_set ?_ | with_reducible refine s_setIx ?_ | with_reducible refine s_ret ?_ | with_reducible refine s_nil ?_ | with_reducible refine s_own ?_ | with_reducible refine s_par ?_ | with_reducible refine t_tst ?_ | with_reducible refine t_and ?_ | with_reducible refine t_or ?_ | with_reducible refine t_not ?_ | with_reducible refine t_yes ?_ | with_reducible refine e_op ?_ | with_reducible refine e_un ?_ | with_reducible refine e_chain ?_ | with_reducible refine e_b ?_ | with_reducible refine e_c ?_ | with_reducible refine e_l ?_ | with_reducible refine e_tup ?_ | with_reducible refine e_call ?_ | with_reducible refine e_and ?_ | with_reducible refine e_or ?_ | with_reducible refine e_not ?_ | with_reducible refine e_if ?_ | with_reducible refine e_sl ?_ | with_reducible refine o_n ?_ | with_reducible refine o_s ?_ | with_reducible refine a_nil ?_ | with_reducible refine a_cons ?_ | with_reducible refine f_lst ?_ | with_reducible refine f_call ?_ | with_reducible refine f_itA ?_ | with_reducible refine f_r1 ?_ | with_reducible refine r_seq ?_ | with_reducible refine n_add ?_ | with_reducible refine n_sub ?_ | with_reducible refine n_gt ?_ | with_reducible refine n_ge ?_ | with_reducible refine n_lt ?_ | with_reducible refine n_le ?_ | with_reducible refine e_var (by with_unfolding_all rfl) ?_ | with_reducible refine e_ixc (by with_unfolding_all rfl) ?_ | with_reducible refine e_callM (by with_unfolding_all rfl) ?_ | with_reducible refine s_frz (by with_unfolding_all rfl) ?_ | with_reducible refine s_app (by with_unfolding_all rfl) ?_ | with_reducible refine few_and (by first | decide | (simp only [List.length_cons, List.length_nil, Nat.reduceAdd, Nat.reduceLeDiff])) ?_ | refine Or.inl ⟨by first | with_reducible rfl | with_reducible exact Bool.not_false, ?_⟩ | refine Or.inr ⟨by first | with_reducible rfl | with_reducible exact Bool.not_true, ?_⟩ | refine Exists.intro _ (Exists.intro _ ⟨rfl, rfl, gd rfl ?_⟩) | refine Exists.intro _ ⟨rfl, ?_⟩)
    refine gd (a := .bool false) rfl ?_
    repeat (first | with_reducible refine s_seq ?_ | with_reducible refine s_if ?_ | with_reducible refine s_set ?_ | with_reducible refine s_setIx ?_ | with_reducible refine s_ret ?_ | with_reducible refine s_nil ?_ | with_reducible refine s_own ?_ | with_reducible refine s_par ?_ | with_reducible refine t_tst ?_ | with_reducible refine t_and ?_ | with_reducible refine t_or ?_ | with_reducible refine t_not ?_ | with_reducible refine t_yes ?_ | with_reducible refine e_op ?_ | with_reducible refine e_un ?_ | with_reducible refine e_chain ?_ | with_reducible refine e_b ?_ | with_reducible refine e_c ?_ | with_reducible refine e_l ?_ | with_reducible refine e_tup ?_ | with_reducible refine e_call ?_ | with_reducible refine e_and ?_ | with_reducible refine e_or ?_ | with_reducible refine e_not ?_ | with_reducible refine e_if ?_ | with_reducible refine e_sl ?_ | with_reducible refine o_n ?_ | with_reducible refine o_s ?_ | with_reducible refine a_nil ?_ | with_reducible refine a_cons ?_ | with_reducible refine f_lst ?_ | with_reducible refine f_call ?_ | with_reducible refine f_itA ?_ | with_reducible refine f_r1 ?_ | with_reducible refine r_seq ?_ | with_reducible refine n_add ?_ | with_reducible refine n_sub ?_ | with_reducible refine n_gt ?_ | with_reducible refine n_ge ?_ | with_reducible refine n_lt ?_ | with_reducible refine n_le ?_ | with_reducible refine e_var (by with_unfolding_all rfl) ?_ | with_reducible refine e_ixc (by with_unfolding_all rfl) ?_ | with_reducible refine e_callM (by with_unfolding_all rfl) ?_ | with_reducible refine s_frz (by with_unfolding_all rfl) ?_ | with_reducible refine s_app (by with_unfolding_all rfl) ?_ | with_reducible refine few_and (by first | decide | (simp only [List.length_cons, List.length_nil, Nat.reduceAdd, Nat.reduceLeDiff])) ?_ | refine Or.inl ⟨by first | with_reducible rfl | with_reducible exact Bool.not_false, ?_⟩ | refine Or.inr ⟨by first | with_reducible rfl | with_reducible exact Bool.not_true, ?_⟩ | refine Exists.intro _ (Exists.intro _ ⟨rfl, rfl, gd rfl ?_⟩) | refine Exists.intro _ ⟨rfl, ?_⟩)
    rfl
  | bool b =>
    refine gd (a := .bool true) rfl ?_
    repeat (first | with_reducible refine s_seq ?_ | with_reducible refine s_if ?_ | with_reducible refine s_set ?_ | with_reducible refine s_setIx ?_ | with_reducible refine s_ret ?_ | with_reducible refine s_nil ?_ | with_reducible refine s_own ?_ | with_reducible refine s_par ?_ | with_reducible refine t_tst ?_ | with_reducible refine t_and ?_ | with_reducible refine t_or ?_ | with_reducible refine t_not ?_ | with_reducible refine t_yes ?_ | with_reducible refine e_op ?_ | with_reducible refine e_un ?_ | with_reducible refine e_chain ?_ | with_reducible refine e_b ?_ | with_reducible refine e_c ?_ | with_reducible refine e_l ?_ | with_reducible refine e_tup ?_ | with_reducible refine e_call ?_ | with_reducible refine e_and ?_ | with_reducible refine e_or ?_ | with_reducible refine e_not ?_ | with_reducible refine e_if ?_ | with_reducible refine e_sl ?_ | with_reducible refine o_n ?_ | with_reducible refine o_s ?_ | with_reducible refine a_nil ?_ | with_reducible refine a_cons ?_ | with_reducible refine f_lst ?_ | with_reducible refine f_call ?_ | with_reducible refine f_itA ?_ | with_reducible refine f_r1 ?_ | with_reducible refine r_seq ?_ | with_reducible refine n_add ?_ | with_reducible refine n_sub ?_ | with_reducible refine n_gt ?_ | with_reducible refine n_ge ?_ | with_reducible refine n_lt ?_ | with_reducible refine n_le ?_ | with_reducible refine e_var (by with_unfolding_all rfl) ?_ | with_reducible refine e_ixc (by with_unfolding_all rfl) ?_ | with_reducible refine e_callM (by with_unfolding_all rfl) ?_ | with_reducible refine s_frz (by with_unfolding_all rfl) ?_ | with_reducible refine s_app (by with_unfolding_all rfl) ?_ | with_reducible refine few_and (by first | decide | (simp only [List.length_cons, List.length_nil, Nat.reduceAdd, Nat.reduceLeDiff])) ?_ | refine Or.inl ⟨by first | with_reducible rfl | with_reducible exact Bool.not_false, ?_⟩ | refine Or.inr ⟨by first | with_reducible rfl | with_reducible exact Bool.not_true, ?_⟩ | refine Exists.intro _ (Exists.intro _ ⟨rfl, rfl, gd rfl ?_⟩) | refine Exists.intro _ ⟨rfl, ?_⟩)
    refine gd (a := .bool true) rfl ?_
    repeat (first | with_reducible refine s_seq ?_ | with_reducible refine s_if ?_ | with_reducible refine s_set ?_ | with_reducible refine s_setIx ?_ | with_reducible refine s_ret ?_ | with_reducible refine s_nil ?_ | with_reducible refine s_own ?_ | with_reducible refine s_par ?_ | with_reducible refine t_tst ?_ | with_reducible refine t_and ?_ | with_reducible refine t_or ?_ | with_reducible refine t_not ?_ | with_reducible refine t_yes ?_ | with_reducible refine e_op ?_ | with_reducible refine e_un ?_ | with_reducible refine e_chain ?_ | with_reducible refine e_b ?_ | with_reducible refine e_c ?_ | with_reducible refine e_l ?_ | with_reducible refine e_tup ?_ | with_reducible refine e_call ?_ | with_reducible refine e_and ?_ | with_reducible refine e_or ?_ | with_reducible refine e_not ?_ | with_reducible refine e_if ?_ | with_reducible refine e_sl ?_ | with_reducible refine o_n ?_ | with_reducible refine o_s ?_ | with_reducible refine a_nil ?_ | with_reducible refine a_cons ?_ | with_reducible refine f_lst ?_ | with_reducible refine f_call ?_ | with_reducible refine f_itA ?_ | with_reducible refine f_r1 ?_ | with_reducible refine r_seq ?_ | with_reducible refine n_add ?_ | with_reducible refine n_sub ?_ | with_reducible refine n_gt ?_ | with_reducible refine n_ge ?_ | with_reducible refine n_lt ?_ | with_reducible refine n_le ?_ | with_reducible refine e_var (by with_unfolding_all rfl) ?_ | with_reducible refine e_ixc (by with_unfolding_all rfl) ?_ | with_reducible refine e_callM (by with_unfolding_all rfl) ?_ | with_reducible refine s_frz (by with_unfolding_all rfl) ?_ | with_reducible refine s_app (by with_unfolding_all rfl) ?_ | with_reducible refine few_and (by first | decide | (simp only [List.length_cons, List.length_nil, Nat.reduceAdd, Nat.reduceLeDiff])) ?_ | refine Or.inl ⟨by first | with_reducible rfl | with_reducible exact Bool.not_false, ?_⟩ | refine Or.inr ⟨by first | with_reducible rfl | with_reducible exact Bool.not_true, ?_⟩ | refine Exists.intro _ (Exists.intro _ ⟨rfl, rfl, gd rfl ?_⟩) | refine Exists.intro _ ⟨rfl, ?_⟩)
    rfl
  | dict kvs =>
    have e : gIsi "int" (.dict kvs) = some (.bool false) := by
      unfold gIsi
      rw [ha]
      unfold tyD at ha
      simp only at ha
      split at ha
      · cases ha; rfl
      · cases ha
    refine gd e ?_
    repeat (first | with_reducible refine s_seq ?_ | with_reducible refine s_if ?_ | with_reducible refine s_set ?_ | with_reducible refine s_setIx ?_ | with_reducible refine s_ret ?_ | with_reducible refine s_nil ?_ | with_reducible refine s_own ?_ | with_reducible refine s_par ?_ | with_reducible refine t_tst ?_ | with_reducible refine t_and ?_ | with_reducible refine t_or ?_ | with_reducible refine t_not ?_ | with_reducible refine t_yes ?_ | with_reducible refine e_op ?_ | with_reducible refine e_un ?_ | with_reducible refine e_chain ?_ | with_reducible refine e_b ?_ | with_reducible refine e_c ?_ | with_reducible refine e_l ?_ | with_reducible refine e_tup ?_ | with_reducible refine e_call ?_ | with_reducible refine e_and ?_ | with_reducible refine e_or ?_ | with_reducible refine e_not ?_ | with_reducible refine e_if ?_ | with_reducible refine e_sl ?_ | with_reducible refine o_n ?_ | with_reducible refine o_s ?_ | with_reducible refine a_nil ?_ | with_reducible refine a_cons ?_ | with_reducible refine f_lst ?_ | with_reducible refine f_call ?_ | with_reducible refine f_itA ?_ | with_reducible refine f_r1 ?_ | with_reducible refine r_seq ?_ | with_reducible refine n_add ?_ | with_reducible refine n_sub ?_ | with_reducible refine n_gt ?_ | with_reducible refine n_ge ?_ | with_reducible refine n_lt ?_ | with_reducible refine n_le ?_ | with_reducible refine e_var (by with_unfolding_all rfl) ?_ | with_reducible refine e_ixc (by with_unfolding_all rfl) ?_ | with_reducible refine e_callM (by with_unfolding_all rfl) ?_ | with_reducible refine s_frz (by with_unfolding_all rfl) ?_ | with_reducible refine s_app (by with_unfolding_all rfl) ?_ | with_reducible refine few_and (by first | decide | (simp only [List.length_cons, List.length_nil, Nat.reduceAdd, Nat.reduceLeDiff])) ?_ | refine Or.inl ⟨by first | with_reducible rfl | with_reducible exact Bool.not_false, ?_⟩ | refine Or.inr ⟨by first | with_reducible rfl | with_reducible exact Bool.not_true, ?_⟩ | refine Exists.intro _ (Exists.intro _ ⟨rfl, rfl, gd rfl ?_⟩) | refine Exists.intro _ ⟨rfl, ?_⟩)
    rfl
  | _ =>
    refine gd (a := .bool false) rfl ?_
    repeat (first | with_reducible refine s_seq ?_ | with_reducible refine s_if ?_ | with_reducible refine s_set ?_ | with_reducible refine s_setIx ?_ | with_reducible refine s_ret ?_ | with_reducible refine s_nil ?_ | with_reducible refine s_own ?_ | with_reducible refine s_par ?_ | with_reducible refine t_tst ?_ | with_reducible refine t_and ?_ | with_reducible refine t_or ?_ | with_reducible refine t_not ?_ | with_reducible refine t_yes ?_ | with_reducible refine e_op ?_ | with_reducible refine e_un ?_ | with_reducible refine e_chain ?_ | with_reducible refine e_b ?_ | with_reducible refine e_c ?_ | with_reducible refine e_l ?_ | with_reducible refine e_tup ?_ | with_reducible refine e_call ?_ | with_reducible refine e_and ?_ | with_reducible refine e_or ?_ | with_reducible refine e_not ?_ | with_reducible refine e_if ?_ | with_reducible refine e_sl ?_ | with_reducible refine o_n ?_ | with_reducible refine o_s ?_ | with_reducible refine a_nil ?_ | with_reducible refine a_cons ?_ | with_reducible refine f_lst ?_ | with_reducible refine f_call ?_ | with_reducible refine f_itA ?_ | with_reducible refine f_r1 ?_ | with_reducible refine r_seq ?_ | with_reducible refine n_add ?_ | with_reducible refine n_sub ?_ | with_reducible refine n_gt ?_ | with_reducible refine n_ge ?_ | with_reducible refine n_lt ?_ | with_reducible refine n_le ?_ | with_reducible refine e_var (by with_unfolding_all rfl) ?_ | with_reducible refine e_ixc (by with_unfolding_all rfl) ?_ | with_reducible refine e_callM (by with_unfolding_all rfl) ?_ | with_reducible refine s_frz (by with_unfolding_all rfl) ?_ | with_reducible refine s_app (by with_unfolding_all rfl) ?_ | with_reducible refine few_and (by first | decide | (simp only [List.length_cons, List.length_nil, Nat.reduceAdd, Nat.reduceLeDiff])) ?_ | refine Or.inl ⟨by first | with_reducible rfl | with_reducible exact Bool.not_false, ?_⟩ | refine Or.inr ⟨by first | with_reducible rfl | with_reducible exact Bool.not_true, ?_⟩ | refine Exists.intro _ (Exists.intro _ ⟨rfl, rfl, gd rfl ?_⟩) | refine Exists.intro _ ⟨rfl, ?_⟩)
    rfl
theorem law_whole_ok {d : PyData} (h : (tyD d).isSome = true) : Gd (m__law_whole [d]) fun r => r = .bool (wholeD d) := by
  obtain ⟨a, ha⟩ := Option.isSome_iff_exists.mp h
  unfold m__law_whole
  refine m_fnP rfl ?_
  unfold b__law_whole
  repeat (first | with_reducible refine s_seq ?_ | with_reducible refine s_if ?_ | with_reducible refine s_set ?_ | with_reducible refine s_setIx ?_ | with_reducible refine s_ret ?_ | with_reducible refine s_nil ?_ | with_reducible refine s_own ?_ | with_reducible refine s_par ?_ | with_reducible refine t_tst ?_ | with_reducible refine t_and ?_ | with_reducible refine t_or ?_ | with_reducible refine t_not ?_ | with_reducible refine t_yes ?_ | with_reducible refine e_op ?_ | with_reducible refine e_un ?_ | with_reducible refine e_chain ?_ | with_reducible refine e_b ?_ | with_reducible refine e_c ?_ | with_reducible refine e_l ?_ | with_reducible refine e_tup ?_ | with_reducible refine e_call ?_ | with_reducible refine e_and ?_ | with_reducible refine e_or ?_ | with_reducible refine e_not ?_ | with_reducible refine e_if ?_ | with_reducible refine e_sl ?_ | with_reducible refine o_n ?_ | with_reducible refine o_s ?_ | with_reducible refine a_nil ?_ | with_reducible refine a_cons ?_ | with_reducible refine f_lst ?_ | with_reducible refine f_call ?_ | with_reducible refine f_itA ?_ | with_reducible refine f_r1 ?_ | with_reducible refine r_seq ?_ | with_reducible refine n_add ?_ | with_reducible refine n_sub ?_ | with_reducible refine n_gt ?_ | with_reducible refine n_ge ?_ | with_reducible refine n_lt ?_ | with_reducible refine n_le ?_ | with_reducible refine e_var (by with_unfolding_all rfl) ?_ | with_reducible refine e_ixc (by with_unfolding_all rfl) ?_ | with_reducible refine e_callM (by with_unfolding_all rfl) ?_ | with_reducible refine s_frz (by with_unfolding_all rfl) ?_ | with_reducible refine s_app (by with_unfolding_all rfl) ?_ | with_reducible refine few_and (by first | decide | (simp only [List.length_cons, List.length_nil, Nat.reduceAdd, Nat.reduceLeDiff])) ?_ | refine Or.inl ⟨by first | with_reducible rfl | with_reducible exact Bool.not_false, ?_⟩ | refine Or.inr ⟨by first | with_reducible rfl | with_reducible exact Bool.not_true, ?_⟩ | refine Exists.intro _ (Exists.intro _ ⟨rfl, rfl, gd rfl ?_⟩) | refine Exists.intro _ ⟨rfl, ?_⟩)
  cases d with
  | int i =>
    refine gd (a := .bool true) rfl ?_
    repeat (first | with_reducible refine s_seq ?_ | with_reducible refine s_if ?_ | with_reducible refine s_set ?_ | with_reducible refine s_setIx ?_ | with_reducible refine s_ret ?_ | with_reducible refine s_nil ?_ | with_reducible refine s_own ?_ | with_reducible refine s_par ?_ | with_reducible refine t_tst ?_ | with_reducible refine t_and ?_ | with_reducible refine t_or ?_ | with_reducible refine t_not ?_ | with_reducible refine t_yes ?_ | with_reducible refine e_op ?_ | with_reducible refine e_un ?_ | with_reducible refine e_chain ?_ | with_reducible refine e_b ?_ | with_reducible refine e_c ?_ | with_reducible refine e_l ?_ | with_reducible refine e_tup ?_ | with_reducible refine e_call ?_ | with_reducible refine e_and ?_ | with_reducible refine e_or ?_ | with_reducible refine e_not ?_ | with_reducible refine e_if ?_ | with_reducible refine e_sl ?_ | with_reducible refine o_n ?_ | with_reducible refine o_s ?_ | with_reducible refine a_nil ?_ | with_reducible refine a_cons ?_ | with_reducible refine f_lst ?_ | with_reducible refine f_call ?_ | with_reducible refine f_itA ?_ | with_reducible refine f_r1 ?_ | with_reducible refine r_seq ?_ | with_reducible refine n_add ?_ | with_reducible refine n_sub ?_ | with_reducible refine n_gt ?_ | with_reducible refine n_ge ?_ | with_reducible refine n_lt ?_ | with_reducible refine n_le ?_ | with_reducible refine e_var (by with_unfolding_all rfl) ?_ | with_reducible refine e_ixc (by with_unfolding_all rfl) ?_ | with_reducible refine e_callM (by with_unfolding_all rfl) ?_ | with_reducible refine s_frz (by with_unfolding_all rfl) ?_ | with_reducible refine s_app (by with_unfolding_all rfl) ?_ | with_reducible refine few_and (by first | decide | (simp only [List.length_cons, List.length_nil, Nat.reduceAdd, Nat.reduceLeDiff])) ?_ | refine Or.inl ⟨by first | with_reducible rfl | with_reducible exact Bool.not_false, ?_⟩ | refine Or.inr ⟨by first | with_reducible rfl | with_reducible exact Bool.not_true, ?_⟩ | refine Exists.intro _ (Exists.intro _ ⟨rfl, rfl, gd rfl ?_⟩) | refine Exists.intro _ ⟨rfl, ?_⟩)
    refine gd (a := .bool false) rfl ?_
    repeat (first | with_reducible refine s_seq ?_ | with_reducible refine s_if ?_ | with_reducible refine s_set ?_ | with_reducible refine s_setIx ?_ | with_reducible refine s_ret ?_ | with_reducible refine s_nil ?_ | with_reducible refine s_own ?_ | with_reducible refine s_par ?_ | with_reducible refine t_tst ?_ | with_reducible refine t_and ?_ | with_reducible refine t_or ?_ | with_reducible refine t_not ?_ | with_reducible refine t_yes ?_ | with_reducible refine e_op ?_ | with_reducible refine e_un ?_ | with_reducible refine e_chain ?_ | with_reducible refine e_b ?_ | with_reducible refine e_c ?_ | with_reducible refine e_l ?_ | with_reducible refine e_tup ?_ | with_reducible refine e_call ?_ | with_reducible refine e_and ?_ | with_reducible refine e_or ?_ | with_reducible refine e_not ?_ | with_reducible refine e_if ?_ | with_reducible refine e_sl ?_ | with_reducible refine o_n ?_ | with_reducible refine o_s ?_ | with_reducible refine a_nil ?_ | with_reducible refine a_cons ?_ | with_reducible refine f_lst ?_ | with_reducible refine f_call ?_ | with_reducible refine f_itA ?_ | with_reducible refine f_r1 ?_ | with_reducible refine r_seq ?_ | with_reducible refine n_add ?_ | with_reducible refine n_sub ?_ | with_reducible refine n_gt ?_ | with_reducible refine n_ge ?_ | with_reducible refine n_lt ?_ | with_reducible refine n_le ?_ | with_reducible refine e_var (by with_unfolding_all rfl) ?_ | with_reducible refine e_ixc (by with_unfolding_all rfl) ?_ | with_reducible refine e_callM (by with_unfolding_all rfl) ?_ | with_reducible refine s_frz (by with_unfolding_all rfl) ?_ | with_reducible refine s_app (by with_unfolding_all rfl) ?_ | with_reducible refine few_and (by first | decide | (simp only [List.length_cons, List.length_nil, Nat.reduceAdd, Nat.reduceLeDiff])) ?_ | refine Or.inl ⟨by first | with_reducible rfl | with_reducible exact Bool.not_false, ?_⟩ | refine Or.inr ⟨by first | with_reducible rfl | with_reducible exact Bool.not_true, ?_⟩ | refine Exists.intro _ (Exists.intro _ ⟨rfl, rfl, gd rfl ?_⟩) | refine Exists.intro _ ⟨rfl, ?_⟩)
    rfl
  | bool b =>
    refine gd (a := .bool true) rfl ?_
    repeat (first | with_reducible refine s_seq ?_ | with_reducible refine s_if ?_ | with_reducible refine s_set ?_ | with_reducible refine s_setIx ?_ | with_reducible refine s_ret ?_ | with_reducible refine s_nil ?_ | with_reducible refine s_own ?_ | with_reducible refine s_par ?_ | with_reducible refine t_tst ?_ | with_reducible refine t_and ?_ | with_reducible refine t_or ?_ | with_reducible refine t_not ?_ | with_reducible refine t_yes ?_ | with_reducible refine e_op ?_ | with_reducible refine e_un ?_ | with_reducible refine e_chain ?_ | with_reducible refine e_b ?_ | with_reducible refine e_c ?_ | with_reducible refine e_l ?_ | with_reducible refine e_tup ?_ | with_reducible refine e_call ?_ | with_reducible refine e_and ?_ | with_reducible refine e_or ?_ | with_reducible refine e_not ?_ | with_reducible refine e_if ?_ | with_reducible refine e_sl ?_ | with_reducible refine o_n ?_ | with_reducible refine o_s ?_ | with_reducible refine a_nil ?_ | with_reducible refine a_cons ?_ | with_reducible refine f_lst ?_ | with_reducible refine f_call ?_ | with_reducible refine f_itA ?_ | with_reducible refine f_r1 ?_ | with_reducible refine r_seq ?_ | with_reducible refine n_add ?_ | with_reducible refine n_sub ?_ | with_reducible refine n_gt ?_ | with_reducible refine n_ge ?_ | with_reducible refine n_lt ?_ | with_reducible refine n_le ?_ | with_reducible refine e_var (by with_unfolding_all rfl) ?_ | with_reducible refine e_ixc (by with_unfolding_all rfl) ?_ | with_reducible refine e_callM (by with_unfolding_all rfl) ?_ | with_reducible refine s_frz (by with_unfolding_all rfl) ?_ | with_reducible refine s_app (by with_unfolding_all rfl) ?_ | with_reducible refine few_and (by first | decide | (simp only [List.length_cons, List.length_nil, Nat.reduceAdd, Nat.reduceLeDiff])) ?_ | refine Or.inl ⟨by first | with_reducible rfl | with_reducible exact Bool.not_false, ?_⟩ | refine Or.inr ⟨by first | with_reducible rfl | with_reducible exact Bool.not_true, ?_⟩ | refine Exists.intro _ (Exists.intro _ ⟨rfl, rfl, gd rfl ?_⟩) | refine Exists.intro _ ⟨rfl, ?_⟩)
    refine gd (a := .bool true) rfl ?_
    repeat (first | with_reducible refine s_seq ?_ | with_reducible refine s_if ?_ | with_reducible refine s_set ?_ | with_reducible refine s_setIx ?_ | with_reducible refine s_ret ?_ | with_reducible refine s_nil ?_ | with_reducible refine s_own ?_ | with_reducible refine s_par ?_ | with_reducible refine t_tst ?_ | with_reducible refine t_and ?_ | with_reducible refine t_or ?_ | with_reducible refine t_not ?_ | with_reducible refine t_yes ?_ | with_reducible refine e_op ?_ | with_reducible refine e_un ?_ | with_reducible refine e_chain ?_ | with_reducible refine e_b ?_ | with_reducible refine e_c ?_ | with_reducible refine e_l ?_ | with_reducible refine e_tup ?_ | with_reducible refine e_call ?_ | with_reducible refine e_and ?_ | with_reducible refine e_or ?_ | with_reducible refine e_not ?_ | with_reducible refine e_if ?_ | with_reducible refine e_sl ?_ | with_reducible refine o_n ?_ | with_reducible refine o_s ?_ | with_reducible refine a_nil ?_ | with_reducible refine a_cons ?_ | with_reducible refine f_lst ?_ | with_reducible refine f_call ?_ | with_reducible refine f_itA ?_ | with_reducible refine f_r1 ?_ | with_reducible refine r_seq ?_ | with_reducible refine n_add ?_ | with_reducible refine n_sub ?_ | with_reducible refine n_gt ?_ | with_reducible refine n_ge ?_ | with_reducible refine n_lt ?_ | with_reducible refine n_le ?_ | with_reducible refine e_var (by with_unfolding_all rfl) ?_ | with_reducible refine e_ixc (by with_unfolding_all rfl) ?_ | with_reducible refine e_callM (by with_unfolding_all rfl) ?_ | with_reducible refine s_frz (by with_unfolding_all rfl) ?_ | with_reducible refine s_app (by with_unfolding_all rfl) ?_ | with_reducible refine few_and (by first | decide | (simp only [List.length_cons, List.length_nil, Nat.reduceAdd, Nat.reduceLeDiff])) ?_ | refine Or.inl ⟨by first | with_reducible rfl | with_reducible exact Bool.not_false, ?_⟩ | refine Or.inr ⟨by first | with_reducible rfl | with_reducible exact Bool.not_true, ?_⟩ | refine Exists.intro _ (Exists.intro _ ⟨rfl, rfl, gd rfl ?_⟩) | refine Exists.intro _ ⟨rfl, ?_⟩)
    rfl
  | dict kvs =>
    have e : gIsi "int" (.dict kvs) = some (.bool false) := by
      unfold gIsi
      rw [ha]
      unfold tyD at ha
      simp only at ha
      split at ha
      · cases ha; rfl
      · cases ha
    refine gd e ?_
    repeat (first | with_reducible refine s_seq ?_ | with_reducible refine s_if ?_ | with_reducible refine s_set ?_ | with_reducible refine s_setIx ?_ | with_reducible refine s_ret ?_ | with_reducible refine s_nil ?_ | with_reducible refine s_own ?_ | with_reducible refine s_par ?_ | with_reducible refine t_tst ?_ | with_reducible refine t_and ?_ | with_reducible refine t_or ?_ | with_reducible refine t_not ?_ | with_reducible refine t_yes ?_ | with_reducible refine e_op ?_ | with_reducible refine e_un ?_ | with_reducible refine e_chain ?_ | with_reducible refine e_b ?_ | with_reducible refine e_c ?_ | with_reducible refine e_l ?_ | with_reducible refine e_tup ?_ | with_reducible refine e_call ?_ | with_reducible refine e_and ?_ | with_reducible refine e_or ?_ | with_reducible refine e_not ?_ | with_reducible refine e_if ?_ | with_reducible refine e_sl ?_ | with_reducible refine o_n ?_ | with_reducible refine o_s ?_ | with_reducible refine a_nil ?_ | with_reducible refine a_cons ?_ | with_reducible refine f_lst ?_ | with_reducible refine f_call ?_ | with_reducible refine f_itA ?_ | with_reducible refine f_r1 ?_ | with_reducible refine r_seq ?_ | with_reducible refine n_add ?_ | with_reducible refine n_sub ?_ | with_reducible refine n_gt ?_ | with_reducible refine n_ge ?_ | with_reducible refine n_lt ?_ | with_reducible refine n_le ?_ | with_reducible refine e_var (by with_unfolding_all rfl) ?_ | with_reducible refine e_ixc (by with_unfolding_all rfl) ?_ | with_reducible refine e_callM (by with_unfolding_all rfl) ?_ | with_reducible refine s_frz (by with_unfolding_all rfl) ?_ | with_reducible refine s_app (by with_unfolding_all rfl) ?_ | with_reducible refine few_and (by first | decide | (simp only [List.length_cons, List.length_nil, Nat.reduceAdd, Nat.reduceLeDiff])) ?_ | refine Or.inl ⟨by first | with_reducible rfl | with_reducible exact Bool.not_false, ?_⟩ | refine Or.inr ⟨by first | with_reducible rfl | with_reducible exact Bool.not_true, ?_⟩ | refine Exists.intro _ (Exists.intro _ ⟨rfl, rfl, gd rfl ?_⟩) | refine Exists.intro _ ⟨rfl, ?_⟩)
    rfl
  | _ =>
    refine gd (a := .bool false) rfl ?_
    repeat (first | with_reducible refine s_seq ?_ | with_reducible refine s_if ?_ | with_reducible refine s_set ?_ | with_reducible refine s_setIx ?_ | with_reducible refine s_ret ?_ | with_reducible refine s_nil ?_ | with_reducible refine s_own ?_ | with_reducible refine s_par ?_ | with_reducible refine t_tst ?_ | with_reducible refine t_and ?_ | with_reducible refine t_or ?_ | with_reducible refine t_not ?_ | with_reducible refine t_yes ?_ | with_reducible refine e_op ?_ | with_reducible refine e_un ?_ | with_reducible refine e_chain ?_ | with_reducible refine e_b ?_ | with_reducible refine e_c ?_ | with_reducible refine e_l ?_ | with_reducible refine e_tup ?_ | with_reducible refine e_call ?_ | with_reducible refine e_and ?_ | with_reducible refine e_or ?_ | with_reducible refine e_not ?_ | with_reducible refine e_if ?_ | with_reducible refine e_sl ?_ | with_reducible refine o_n ?_ | with_reducible refine o_s ?_ | with_reducible refine a_nil ?_ | with_reducible refine a_cons ?_ | with_reducible refine f_lst ?_ | with_reducible refine f_call ?_ | with_reducible refine f_itA ?_ | with_reducible refine f_r1 ?_ | with_reducible refine r_seq ?_ | with_reducible refine n_add ?_ | with_reducible refine n_sub ?_ | with_reducible refine n_gt ?_ | with_reducible refine n_ge ?_ | with_reducible refine n_lt ?_ | with_reducible refine n_le ?_ | with_reducible refine e_var (by with_unfolding_all rfl) ?_ | with_reducible refine e_ixc (by with_unfolding_all rfl) ?_ | with_reducible refine e_callM (by with_unfolding_all rfl) ?_ | with_reducible refine s_frz (by with_unfolding_all rfl) ?_ | with_reducible refine s_app (by with_unfolding_all rfl) ?_ | with_reducible refine few_and (by first | decide | (simp only [List.length_cons, List.length_nil, Nat.reduceAdd, Nat.reduceLeDiff])) ?_ | refine Or.inl ⟨by first | with_reducible rfl | with_reducible exact Bool.not_false, ?_⟩ | refine Or.inr ⟨by first | with_reducible rfl | with_reducible exact Bool.not_true, ?_⟩ | refine Exists.intro _ (Exists.intro _ ⟨rfl, rfl, gd rfl ?_⟩) | refine Exists.intro _ ⟨rfl, ?_⟩)
    rfl
def fracB : PyData → Bool
  | .tuple [.int p, .int q] => decide (0 < q) && decide (Nat.gcd p.natAbs q.natAbs = 1)
  | _ => false
/-- what the law hands in -/
def Th : PyData → Prop
  | .tuple [a, b] => (tyD a).isSome = true ∧ (tyD b).isSome = true ∧ ∀ i, b = .int i → i.natAbs < 2 ^ 200
  | .tuple _ => True
  | d => (tyD d).isSome = true
theorem not_tuple {d : PyData} (h : ∀ ds, d ≠ .tuple ds) (t : Th d) : gIsi "tuple" d = some (.bool false) ∧ fracB d = false := by
  have g : (tyD d).isSome = true := by
    cases d with
    | tuple ds => exact absurd rfl (h ds)
    | _ => exact t
  obtain ⟨a, ha⟩ := Option.isSome_iff_exists.mp g
  cases d with
  | tuple ds => exact absurd rfl (h ds)
  | dict kvs =>
    refine ⟨?_, rfl⟩
    unfold gIsi
    rw [ha]
    unfold tyD at ha
    simp only at ha
    split at ha
    · cases ha; rfl
    · cases ha
  | _ => exact ⟨rfl, rfl⟩
theorem ne_two (n : Nat) : gNe (.int (n : Int)) (.int 2) = some (.bool (!decide (n = 2))) := by
  have e : PyData.eqv (.int (n : Int)) (.int 2) = decide (n = 2) := by
    rw [PyData.eqv]
    by_cases c : n = 2
    · subst c; rfl
    · have : (n : Int) ≠ 2 := by omega
      simp [c, this]
  rw [← e]
  rfl
theorem two_parts {ds : List PyData} (h : ds.length = 2) : ∃ a b, ds = [a, b] := by
  match ds, h with
  | [a, b], _ => exact ⟨a, b, rfl⟩
theorem frac_not {ds : List PyData} (h : ds.length ≠ 2) : fracB (.tuple ds) = false := by
  match ds, h with
  | [], _ => rfl
  | [_], _ => simp [fracB]
  | [_, _], h => exact absurd rfl h
  | _ :: _ :: _ :: _, _ => simp [fracB]
theorem eq_one (n : Nat) : gEq (.int (n : Int)) (.int 1) = some (.bool (decide (n = 1))) := by
  have e : PyData.eqv (.int (n : Int)) (.int 1) = decide (n = 1) := by
    rw [PyData.eqv]
    by_cases c : n = 1
    · subst c; rfl
    · have : (n : Int) ≠ 1 := by omega
      simp [c, this]
  rw [← e]
  rfl
theorem is_fraction_ok {d : PyData} (t : Th d) : Gd (m_is_fraction [d]) fun r => r = .bool (fracB d) := by
  unfold m_is_fraction
  refine m_fnP rfl ?_
  unfold b_is_fraction
  repeat (first | with_reducible refine s_seq ?_ | with_reducible refine s_if ?_ | with_reducible refine s_set ?_ | with_reducible refine s_setIx ?_ | with_reducible refine s_ret ?_ | with_reducible refine s_nil ?_ | with_reducible refine s_own ?_ | with_reducible refine s_par ?_ | with_reducible refine t_tst ?_ | with_reducible refine t_and ?_ | with_reducible refine t_or ?_ | with_reducible refine t_not ?_ | with_reducible refine t_yes ?_ | with_reducible refine e_op ?_ | with_reducible refine e_un ?_ | with_reducible refine e_chain ?_ | with_reducible refine e_b ?_ | with_reducible refine e_c ?_ | with_reducible refine e_l ?_ | with_reducible refine e_tup ?_ | with_reducible refine e_call ?_ | with_reducible refine e_and ?_ | with_reducible refine e_or ?_ | with_reducible refine e_not ?_ | with_reducible refine e_if ?_ | with_reducible refine e_sl ?_ | with_reducible refine o_n ?_ | with_reducible refine o_s ?_ | with_reducible refine a_nil ?_ | with_reducible refine a_cons ?_ | with_reducible refine f_lst ?_ | with_reducible refine f_call ?_ | with_reducible refine f_itA ?_ | with_reducible refine f_r1 ?_ | with_reducible refine r_seq ?_ | with_reducible refine n_add ?_ | with_reducible refine n_sub ?_ | with_reducible refine n_gt ?_ | with_reducible refine n_ge ?_ | with_reducible refine n_lt ?_ | with_reducible refine n_le ?_ | with_reducible refine e_var (by with_unfolding_all rfl) ?_ | with_reducible refine e_ixc (by with_unfolding_all rfl) ?_ | with_reducible refine e_callM (by with_unfolding_all rfl) ?_ | with_reducible refine s_frz (by with_unfolding_all rfl) ?_ | with_reducible refine s_app (by with_unfolding_all rfl) ?_ | with_reducible refine few_and (by first | decide | (simp only [List.length_cons, List.length_nil, Nat.reduceAdd, Nat.reduceLeDiff])) ?_ | refine Or.inl ⟨by first | with_reducible rfl | with_reducible exact Bool.not_false, ?_⟩ | refine Or.inr ⟨by first | with_reducible rfl | with_reducible exact Bool.not_true, ?_⟩ | refine Exists.intro _ (Exists.intro _ ⟨rfl, rfl, gd rfl ?_⟩) | refine Exists.intro _ ⟨rfl, ?_⟩)
  by_cases c : ∃ ds, d = .tuple ds
  · obtain ⟨ds, rfl⟩ := c
    refine gd (a := .bool true) rfl ?_
    repeat (first | with_reducible refine s_seq ?_ | with_reducible refine s_if ?_ | with_reducible refine s_set ?_ | with_reducible refine s_setIx ?_ | with_reducible refine s_ret ?_ | with_reducible refine s_nil ?_ | with_reducible refine s_own ?_ | with_reducible refine s_par ?_ | with_reducible refine t_tst ?_ | with_reducible refine t_and ?_ | with_reducible refine t_or ?_ | with_reducible refine t_not ?_ | with_reducible refine t_yes ?_ | with_reducible refine e_op ?_ | with_reducible refine e_un ?_ | with_reducible refine e_chain ?_ | with_reducible refine e_b ?_ | with_reducible refine e_c ?_ | with_reducible refine e_l ?_ | with_reducible refine e_tup ?_ | with_reducible refine e_call ?_ | with_reducible refine e_and ?_ | with_reducible refine e_or ?_ | with_reducible refine e_not ?_ | with_reducible refine e_if ?_ | with_reducible refine e_sl ?_ | with_reducible refine o_n ?_ | with_reducible refine o_s ?_ | with_reducible refine a_nil ?_ | with_reducible refine a_cons ?_ | with_reducible refine f_lst ?_ | with_reducible refine f_call ?_ | with_reducible refine f_itA ?_ | with_reducible refine f_r1 ?_ | with_reducible refine r_seq ?_ | with_reducible refine n_add ?_ | with_reducible refine n_sub ?_ | with_reducible refine n_gt ?_ | with_reducible refine n_ge ?_ | with_reducible refine n_lt ?_ | with_reducible refine n_le ?_ | with_reducible refine e_var (by with_unfolding_all rfl) ?_ | with_reducible refine e_ixc (by with_unfolding_all rfl) ?_ | with_reducible refine e_callM (by with_unfolding_all rfl) ?_ | with_reducible refine s_frz (by with_unfolding_all rfl) ?_ | with_reducible refine s_app (by with_unfolding_all rfl) ?_ | with_reducible refine few_and (by first | decide | (simp only [List.length_cons, List.length_nil, Nat.reduceAdd, Nat.reduceLeDiff])) ?_ | refine Or.inl ⟨by first | with_reducible rfl | with_reducible exact Bool.not_false, ?_⟩ | refine Or.inr ⟨by first | with_reducible rfl | with_reducible exact Bool.not_true, ?_⟩ | refine Exists.intro _ (Exists.intro _ ⟨rfl, rfl, gd rfl ?_⟩) | refine Exists.intro _ ⟨rfl, ?_⟩)
    refine gd (a := .int (ds.length : Nat)) rfl ?_
    repeat (first | with_reducible refine s_seq ?_ | with_reducible refine s_if ?_ | with_reducible refine s_set ?_ | with_reducible refine s_setIx ?_ | with_reducible refine s_ret ?_ | with_reducible refine s_nil ?_ | with_reducible refine s_own ?_ | with_reducible refine s_par ?_ | with_reducible refine t_tst ?_ | with_reducible refine t_and ?_ | with_reducible refine t_or ?_ | with_reducible refine t_not ?_ | with_reducible refine t_yes ?_ | with_reducible refine e_op ?_ | with_reducible refine e_un ?_ | with_reducible refine e_chain ?_ | with_reducible refine e_b ?_ | with_reducible refine e_c ?_ | with_reducible refine e_l ?_ | with_reducible refine e_tup ?_ | with_reducible refine e_call ?_ | with_reducible refine e_and ?_ | with_reducible refine e_or ?_ | with_reducible refine e_not ?_ | with_reducible refine e_if ?_ | with_reducible refine e_sl ?_ | with_reducible refine o_n ?_ | with_reducible refine o_s ?_ | with_reducible refine a_nil ?_ | with_reducible refine a_cons ?_ | with_reducible refine f_lst ?_ | with_reducible refine f_call ?_ | with_reducible refine f_itA ?_ | with_reducible refine f_r1 ?_ | with_reducible refine r_seq ?_ | with_reducible refine n_add ?_ | with_reducible refine n_sub ?_ | with_reducible refine n_gt ?_ | with_reducible refine n_ge ?_ | with_reducible refine n_lt ?_ | with_reducible refine n_le ?_ | with_reducible refine e_var (by with_unfolding_all rfl) ?_ | with_reducible refine e_ixc (by with_unfolding_all rfl) ?_ | with_reducible refine e_callM (by with_unfolding_all rfl) ?_ | with_reducible refine s_frz (by with_unfolding_all rfl) ?_ | with_reducible refine s_app (by with_unfolding_all rfl) ?_ | with_reducible refine few_and (by first | decide | (simp only [List.length_cons, List.length_nil, Nat.reduceAdd, Nat.reduceLeDiff])) ?_ | refine Or.inl ⟨by first | with_reducible rfl | with_reducible exact Bool.not_false, ?_⟩ | refine Or.inr ⟨by first | with_reducible rfl | with_reducible exact Bool.not_true, ?_⟩ | refine Exists.intro _ (Exists.intro _ ⟨rfl, rfl, gd rfl ?_⟩) | refine Exists.intro _ ⟨rfl, ?_⟩)
    refine gd (ne_two _) ?_
    by_cases l : ds.length = 2
    · rw [decide_eq_true l]
      obtain ⟨a, b, rfl⟩ := two_parts l
      obtain ⟨ta, tb, few⟩ := t
      repeat (first | with_reducible refine s_seq ?_ | with_reducible refine s_if ?_ | with_reducible refine s_set ?_ | with_reducible refine s_setIx ?_ | with_reducible refine s_ret ?_ | with_reducible refine s_nil ?_ | with_reducible refine s_own ?_ | with_reducible refine s_par ?_ | with_reducible refine t_tst ?_ | with_reducible refine t_and ?_ | with_reducible refine t_or ?_ | with_reducible refine t_not ?_ | with_reducible refine t_yes ?_ | with_reducible refine e_op ?_ | with_reducible refine e_un ?_ | with_reducible refine e_chain ?_ | with_reducible refine e_b ?_ | with_reducible refine e_c ?_ | with_reducible refine e_l ?_ | with_reducible refine e_tup ?_ | with_reducible refine e_call ?_ | with_reducible refine e_and ?_ | with_reducible refine e_or ?_ | with_reducible refine e_not ?_ | with_reducible refine e_if ?_ | with_reducible refine e_sl ?_ | with_reducible refine o_n ?_ | with_reducible refine o_s ?_ | with_reducible refine a_nil ?_ | with_reducible refine a_cons ?_ | with_reducible refine f_lst ?_ | with_reducible refine f_call ?_ | with_reducible refine f_itA ?_ | with_reducible refine f_r1 ?_ | with_reducible refine r_seq ?_ | with_reducible refine n_add ?_ | with_reducible refine n_sub ?_ | with_reducible refine n_gt ?_ | with_reducible refine n_ge ?_ | with_reducible refine n_lt ?_ | with_reducible refine n_le ?_ | with_reducible refine e_var (by with_unfolding_all rfl) ?_ | with_reducible refine e_ixc (by with_unfolding_all rfl) ?_ | with_reducible refine e_callM (by with_unfolding_all rfl) ?_ | with_reducible refine s_frz (by with_unfolding_all rfl) ?_ | with_reducible refine s_app (by with_unfolding_all rfl) ?_ | with_reducible refine few_and (by first | decide | (simp only [List.length_cons, List.length_nil, Nat.reduceAdd, Nat.reduceLeDiff])) ?_ | refine Or.inl ⟨by first | with_reducible rfl | with_reducible exact Bool.not_false, ?_⟩ | refine Or.inr ⟨by first | with_reducible rfl | with_reducible exact Bool.not_true, ?_⟩ | refine Exists.intro _ (Exists.intro _ ⟨rfl, rfl, gd rfl ?_⟩) | refine Exists.intro _ ⟨rfl, ?_⟩)
      refine s_asg ?_
      repeat (first | with_reducible refine s_seq ?_ | with_reducible refine s_if ?_ | with_reducible refine s_set ?_ | with_reducible refine s_setIx ?_ | with_reducible refine s_ret ?_ | with_reducible refine s_nil ?_ | with_reducible refine s_own ?_ | with_reducible refine s_par ?_ | with_reducible refine t_tst ?_ | with_reducible refine t_and ?_ | with_reducible refine t_or ?_ | with_reducible refine t_not ?_ | with_reducible refine t_yes ?_ | with_reducible refine e_op ?_ | with_reducible refine e_un ?_ | with_reducible refine e_chain ?_ | with_reducible refine e_b ?_ | with_reducible refine e_c ?_ | with_reducible refine e_l ?_ | with_reducible refine e_tup ?_ | with_reducible refine e_call ?_ | with_reducible refine e_and ?_ | with_reducible refine e_or ?_ | with_reducible refine e_not ?_ | with_reducible refine e_if ?_ | with_reducible refine e_sl ?_ | with_reducible refine o_n ?_ | with_reducible refine o_s ?_ | with_reducible refine a_nil ?_ | with_reducible refine a_cons ?_ | with_reducible refine f_lst ?_ | with_reducible refine f_call ?_ | with_reducible refine f_itA ?_ | with_reducible refine f_r1 ?_ | with_reducible refine r_seq ?_ | with_reducible refine n_add ?_ | with_reducible refine n_sub ?_ | with_reducible refine n_gt ?_ | with_reducible refine n_ge ?_ | with_reducible refine n_lt ?_ | with_reducible refine n_le ?_ | with_reducible refine e_var (by with_unfolding_all rfl) ?_ | with_reducible refine e_ixc (by with_unfolding_all rfl) ?_ | with_reducible refine e_callM (by with_unfolding_all rfl) ?_ | with_reducible refine s_frz (by with_unfolding_all rfl) ?_ | with_reducible refine s_app (by with_unfolding_all rfl) ?_ | with_reducible refine few_and (by first | decide | (simp only [List.length_cons, List.length_nil, Nat.reduceAdd, Nat.reduceLeDiff])) ?_ | refine Or.inl ⟨by first | with_reducible rfl | with_reducible exact Bool.not_false, ?_⟩ | refine Or.inr ⟨by first | with_reducible rfl | with_reducible exact Bool.not_true, ?_⟩ | refine Exists.intro _ (Exists.intro _ ⟨rfl, rfl, gd rfl ?_⟩) | refine Exists.intro _ ⟨rfl, ?_⟩)
      refine gd rfl ?_
      repeat (first | with_reducible refine s_seq ?_ | with_reducible refine s_if ?_ | with_reducible refine s_set ?_ | with_reducible refine s_setIx ?_ | with_reducible refine s_ret ?_ | with_reducible refine s_nil ?_ | with_reducible refine s_own ?_ | with_reducible refine s_par ?_ | with_reducible refine t_tst ?_ | with_reducible refine t_and ?_ | with_reducible refine t_or ?_ | with_reducible refine t_not ?_ | with_reducible refine t_yes ?_ | with_reducible refine e_op ?_ | with_reducible refine e_un ?_ | with_reducible refine e_chain ?_ | with_reducible refine e_b ?_ | with_reducible refine e_c ?_ | with_reducible refine e_l ?_ | with_reducible refine e_tup ?_ | with_reducible refine e_call ?_ | with_reducible refine e_and ?_ | with_reducible refine e_or ?_ | with_reducible refine e_not ?_ | with_reducible refine e_if ?_ | with_reducible refine e_sl ?_ | with_reducible refine o_n ?_ | with_reducible refine o_s ?_ | with_reducible refine a_nil ?_ | with_reducible refine a_cons ?_ | with_reducible refine f_lst ?_ | with_reducible refine f_call ?_ | with_reducible refine f_itA ?_ | with_reducible refine f_r1 ?_ | with_reducible refine r_seq ?_ | with_reducible refine n_add ?_ | with_reducible refine n_sub ?_ | with_reducible refine n_gt ?_ | with_reducible refine n_ge ?_ | with_reducible refine n_lt ?_ | with_reducible refine n_le ?_ | with_reducible refine e_var (by with_unfolding_all rfl) ?_ | with_reducible refine e_ixc (by with_unfolding_all rfl) ?_ | with_reducible refine e_callM (by with_unfolding_all rfl) ?_ | with_reducible refine s_frz (by with_unfolding_all rfl) ?_ | with_reducible refine s_app (by with_unfolding_all rfl) ?_ | with_reducible refine few_and (by first | decide | (simp only [List.length_cons, List.length_nil, Nat.reduceAdd, Nat.reduceLeDiff])) ?_ | refine Or.inl ⟨by first | with_reducible rfl | with_reducible exact Bool.not_false, ?_⟩ | refine Or.inr ⟨by first | with_reducible rfl | with_reducible exact Bool.not_true, ?_⟩ | refine Exists.intro _ (Exists.intro _ ⟨rfl, rfl, gd rfl ?_⟩) | refine Exists.intro _ ⟨rfl, ?_⟩)
      refine gd_mono (whole_ok ta) fun r hr => ?_
      subst hr
      repeat (first | with_reducible refine s_seq ?_ | with_reducible refine s_if ?_ | with_reducible refine s_set ?_ | with_reducible refine s_setIx ?_ | with_reducible refine s_ret ?_ | with_reducible refine s_nil ?_ | with_reducible refine s_own ?_ | with_reducible refine s_par ?_ | with_reducible refine t_tst ?_ | with_reducible refine t_and ?_ | with_reducible refine t_or ?_ | with_reducible refine t_not ?_ | with_reducible refine t_yes ?_ | with_reducible refine e_op ?_ | with_reducible refine e_un ?_ | with_reducible refine e_chain ?_ | with_reducible refine e_b ?_ | with_reducible refine e_c ?_ | with_reducible refine e_l ?_ | with_reducible refine e_tup ?_ | with_reducible refine e_call ?_ | with_reducible refine e_and ?_ | with_reducible refine e_or ?_ | with_reducible refine e_not ?_ | with_reducible refine e_if ?_ | with_reducible refine e_sl ?_ | with_reducible refine o_n ?_ | with_reducible refine o_s ?_ | with_reducible refine a_nil ?_ | with_reducible refine a_cons ?_ | with_reducible refine f_lst ?_ | with_reducible refine f_call ?_ | with_reducible refine f_itA ?_ | with_reducible refine f_r1 ?_ | with_reducible refine r_seq ?_ | with_reducible refine n_add ?_ | with_reducible refine n_sub ?_ | with_reducible refine n_gt ?_ | with_reducible refine n_ge ?_ | with_reducible refine n_lt ?_ | with_reducible refine n_le ?_ | with_reducible refine e_var (by with_unfolding_all rfl) ?_ | with_reducible refine e_ixc (by with_unfolding_all rfl) ?_ | with_reducible refine e_callM (by with_unfolding_all rfl) ?_ | with_reducible refine s_frz (by with_unfolding_all rfl) ?_ | with_reducible refine s_app (by with_unfolding_all rfl) ?_ | with_reducible refine few_and (by first | decide | (simp only [List.length_cons, List.length_nil, Nat.reduceAdd, Nat.reduceLeDiff])) ?_ | refine Or.inl ⟨by first | with_reducible rfl | with_reducible exact Bool.not_false, ?_⟩ | refine Or.inr ⟨by first | with_reducible rfl | with_reducible exact Bool.not_true, ?_⟩ | refine Exists.intro _ (Exists.intro _ ⟨rfl, rfl, gd rfl ?_⟩) | refine Exists.intro _ ⟨rfl, ?_⟩)
      cases a with
      | int p =>
        refine .inl ⟨rfl, ?_⟩
        repeat (first | with_reducible refine s_seq ?_ | with_reducible refine s_if ?_ | with_reducible refine s_set ?_ | with_reducible refine s_setIx ?_ | with_reducible refine s_ret ?_ | with_reducible refine s_nil ?_ | with_reducible refine s_own ?_ | with_reducible refine s_par ?_ | with_reducible refine t_tst ?_ | with_reducible refine t_and ?_ | with_reducible refine t_or ?_ | with_reducible refine t_not ?_ | with_reducible refine t_yes ?_ | with_reducible refine e_op ?_ | with_reducible refine e_un ?_ | with_reducible refine e_chain ?_ | with_reducible refine e_b ?_ | with_reducible refine e_c ?_ | with_reducible refine e_l ?_ | with_reducible refine e_tup ?_ | with_reducible refine e_call ?_ | with_reducible refine e_and ?_ | with_reducible refine e_or ?_ | with_reducible refine e_not ?_ | with_reducible refine e_if ?_ | with_reducible refine e_sl ?_ | with_reducible refine o_n ?_ | with_reducible refine o_s ?_ | with_reducible refine a_nil ?_ | with_reducible refine a_cons ?_ | with_reducible refine f_lst ?_ | with_reducible refine f_call ?_ | with_reducible refine f_itA ?_ | with_reducible refine f_r1 ?_ | with_reducible refine r_seq ?_ | with_reducible refine n_add ?_ | with_reducible refine n_sub ?_ | with_reducible refine n_gt ?_ | with_reducible refine n_ge ?_ | with_reducible refine n_lt ?_ | with_reducible refine n_le ?_ | with_reducible refine e_var (by with_unfolding_all rfl) ?_ | with_reducible refine e_ixc (by with_unfolding_all rfl) ?_ | with_reducible refine e_callM (by with_unfolding_all rfl) ?_ | with_reducible refine s_frz (by with_unfolding_all rfl) ?_ | with_reducible refine s_app (by with_unfolding_all rfl) ?_ | with_reducible refine few_and (by first | decide | (simp only [List.length_cons, List.length_nil, Nat.reduceAdd, Nat.reduceLeDiff])) ?_ | refine Or.inl ⟨by first | with_reducible rfl | with_reducible exact Bool.not_false, ?_⟩ | refine Or.inr ⟨by first | with_reducible rfl | with_reducible exact Bool.not_true, ?_⟩ | refine Exists.intro _ (Exists.intro _ ⟨rfl, rfl, gd rfl ?_⟩) | refine Exists.intro _ ⟨rfl, ?_⟩)
        refine gd_mono (whole_ok tb) fun r hr => ?_
        subst hr
        repeat (first | with_reducible refine s_seq ?_ | with_reducible refine s_if ?_ | with_reducible refine s_set ?_ | with_reducible refine s_setIx ?_ | with_reducible refine s_ret ?_ | with_reducible refine s_nil ?_ | with_reducible refine s_own ?_ | with_reducible refine s_par ?_ | with_reducible refine t_tst ?_ | with_reducible refine t_and ?_ | with_reducible refine t_or ?_ | with_reducible refine t_not ?_ | with_reducible refine t_yes ?_ | with_reducible refine e_op ?_ | with_reducible refine e_un ?_ | with_reducible refine e_chain ?_ | with_reducible refine e_b ?_ | with_reducible refine e_c ?_ | with_reducible refine e_l ?_ | with_reducible refine e_tup ?_ | with_reducible refine e_call ?_ | with_reducible refine e_and ?_ | with_reducible refine e_or ?_ | with_reducible refine e_not ?_ | with_reducible refine e_if ?_ | with_reducible refine e_sl ?_ | with_reducible refine o_n ?_ | with_reducible refine o_s ?_ | with_reducible refine a_nil ?_ | with_reducible refine a_cons ?_ | with_reducible refine f_lst ?_ | with_reducible refine f_call ?_ | with_reducible refine f_itA ?_ | with_reducible refine f_r1 ?_ | with_reducible refine r_seq ?_ | with_reducible refine n_add ?_ | with_reducible refine n_sub ?_ | with_reducible refine n_gt ?_ | with_reducible refine n_ge ?_ | with_reducible refine n_lt ?_ | with_reducible refine n_le ?_ | with_reducible refine e_var (by with_unfolding_all rfl) ?_ | with_reducible refine e_ixc (by with_unfolding_all rfl) ?_ | with_reducible refine e_callM (by with_unfolding_all rfl) ?_ | with_reducible refine s_frz (by with_unfolding_all rfl) ?_ | with_reducible refine s_app (by with_unfolding_all rfl) ?_ | with_reducible refine few_and (by first | decide | (simp only [List.length_cons, List.length_nil, Nat.reduceAdd, Nat.reduceLeDiff])) ?_ | refine Or.inl ⟨by first | with_reducible rfl | with_reducible exact Bool.not_false, ?_⟩ | refine Or.inr ⟨by first | with_reducible rfl | with_reducible exact Bool.not_true, ?_⟩ | refine Exists.intro _ (Exists.intro _ ⟨rfl, rfl, gd rfl ?_⟩) | refine Exists.intro _ ⟨rfl, ?_⟩)
        cases b with
        | int q =>
          refine .inl ⟨rfl, ?_⟩
          repeat (first | with_reducible refine s_seq ?_ | with_reducible refine s_if ?_ | with_reducible refine s_set ?_ | with_reducible refine s_setIx ?_ | with_reducible refine s_ret ?_ | with_reducible refine s_nil ?_ | with_reducible refine s_own ?_ | with_reducible refine s_par ?_ | with_reducible refine t_tst ?_ | with_reducible refine t_and ?_ | with_reducible refine t_or ?_ | with_reducible refine t_not ?_ | with_reducible refine t_yes ?_ | with_reducible refine e_op ?_ | with_reducible refine e_un ?_ | with_reducible refine e_chain ?_ | with_reducible refine e_b ?_ | with_reducible refine e_c ?_ | with_reducible refine e_l ?_ | with_reducible refine e_tup ?_ | with_reducible refine e_call ?_ | with_reducible refine e_and ?_ | with_reducible refine e_or ?_ | with_reducible refine e_not ?_ | with_reducible refine e_if ?_ | with_reducible refine e_sl ?_ | with_reducible refine o_n ?_ | with_reducible refine o_s ?_ | with_reducible refine a_nil ?_ | with_reducible refine a_cons ?_ | with_reducible refine f_lst ?_ | with_reducible refine f_call ?_ | with_reducible refine f_itA ?_ | with_reducible refine f_r1 ?_ | with_reducible refine r_seq ?_ | with_reducible refine n_add ?_ | with_reducible refine n_sub ?_ | with_reducible refine n_gt ?_ | with_reducible refine n_ge ?_ | with_reducible refine n_lt ?_ | with_reducible refine n_le ?_ | with_reducible refine e_var (by with_unfolding_all rfl) ?_ | with_reducible refine e_ixc (by with_unfolding_all rfl) ?_ | with_reducible refine e_callM (by with_unfolding_all rfl) ?_ | with_reducible refine s_frz (by with_unfolding_all rfl) ?_ | with_reducible refine s_app (by with_unfolding_all rfl) ?_ | with_reducible refine few_and (by first | decide | (simp only [List.length_cons, List.length_nil, Nat.reduceAdd, Nat.reduceLeDiff])) ?_ | refine Or.inl ⟨by first | with_reducible rfl | with_reducible exact Bool.not_false, ?_⟩ | refine Or.inr ⟨by first | with_reducible rfl | with_reducible exact Bool.not_true, ?_⟩ | refine Exists.intro _ (Exists.intro _ ⟨rfl, rfl, gd rfl ?_⟩) | refine Exists.intro _ ⟨rfl, ?_⟩)
          by_cases c : 0 < q
          · refine .inl ⟨decide_eq_true (by omega), ?_⟩
            repeat (first | with_reducible refine s_seq ?_ | with_reducible refine s_if ?_ | with_reducible refine s_set ?_ | with_reducible refine s_setIx ?_ | with_reducible refine s_ret ?_ | with_reducible refine s_nil ?_ | with_reducible refine s_own ?_ | with_reducible refine s_par ?_ | with_reducible refine t_tst ?_ | with_reducible refine t_and ?_ | with_reducible refine t_or ?_ | with_reducible refine t_not ?_ | with_reducible refine t_yes ?_ | with_reducible refine e_op ?_ | with_reducible refine e_un ?_ | with_reducible refine e_chain ?_ | with_reducible refine e_b ?_ | with_reducible refine e_c ?_ | with_reducible refine e_l ?_ | with_reducible refine e_tup ?_ | with_reducible refine e_call ?_ | with_reducible refine e_and ?_ | with_reducible refine e_or ?_ | with_reducible refine e_not ?_ | with_reducible refine e_if ?_ | with_reducible refine e_sl ?_ | with_reducible refine o_n ?_ | with_reducible refine o_s ?_ | with_reducible refine a_nil ?_ | with_reducible refine a_cons ?_ | with_reducible refine f_lst ?_ | with_reducible refine f_call ?_ | with_reducible refine f_itA ?_ | with_reducible refine f_r1 ?_ | with_reducible refine r_seq ?_ | with_reducible refine n_add ?_ | with_reducible refine n_sub ?_ | with_reducible refine n_gt ?_ | with_reducible refine n_ge ?_ | with_reducible refine n_lt ?_ | with_reducible refine n_le ?_ | with_reducible refine e_var (by with_unfolding_all rfl) ?_ | with_reducible refine e_ixc (by with_unfolding_all rfl) ?_ | with_reducible refine e_callM (by with_unfolding_all rfl) ?_ | with_reducible refine s_frz (by with_unfolding_all rfl) ?_ | with_reducible refine s_app (by with_unfolding_all rfl) ?_ | with_reducible refine few_and (by first | decide | (simp only [List.length_cons, List.length_nil, Nat.reduceAdd, Nat.reduceLeDiff])) ?_ | refine Or.inl ⟨by first | with_reducible rfl | with_reducible exact Bool.not_false, ?_⟩ | refine Or.inr ⟨by first | with_reducible rfl | with_reducible exact Bool.not_true, ?_⟩ | refine Exists.intro _ (Exists.intro _ ⟨rfl, rfl, gd rfl ?_⟩) | refine Exists.intro _ ⟨rfl, ?_⟩)
            refine gd (a := .int ((Nat.gcd p.natAbs q.natAbs : Nat) : Int)) rfl ?_
            repeat (first | with_reducible refine s_seq ?_ | with_reducible refine s_if ?_ | with_reducible refine s_set ?_ | with_reducible refine s_setIx ?_ | with_reducible refine s_ret ?_ | with_reducible refine s_nil ?_ | with_reducible refine s_own ?_ | with_reducible refine s_par ?_ | with_reducible refine t_tst ?_ | with_reducible refine t_and ?_ | with_reducible refine t_or ?_ | with_reducible refine t_not ?_ | with_reducible refine t_yes ?_ | with_reducible refine e_op ?_ | with_reducible refine e_un ?_ | with_reducible refine e_chain ?_ | with_reducible refine e_b ?_ | with_reducible refine e_c ?_ | with_reducible refine e_l ?_ | with_reducible refine e_tup ?_ | with_reducible refine e_call ?_ | with_reducible refine e_and ?_ | with_reducible refine e_or ?_ | with_reducible refine e_not ?_ | with_reducible refine e_if ?_ | with_reducible refine e_sl ?_ | with_reducible refine o_n ?_ | with_reducible refine o_s ?_ | with_reducible refine a_nil ?_ | with_reducible refine a_cons ?_ | with_reducible refine f_lst ?_ | with_reducible refine f_call ?_ | with_reducible refine f_itA ?_ | with_reducible refine f_r1 ?_ | with_reducible refine r_seq ?_ | with_reducible refine n_add ?_ | with_reducible refine n_sub ?_ | with_reducible refine n_gt ?_ | with_reducible refine n_ge ?_ | with_reducible refine n_lt ?_ | with_reducible refine n_le ?_ | with_reducible refine e_var (by with_unfolding_all rfl) ?_ | with_reducible refine e_ixc (by with_unfolding_all rfl) ?_ | with_reducible refine e_callM (by with_unfolding_all rfl) ?_ | with_reducible refine s_frz (by with_unfolding_all rfl) ?_ | with_reducible refine s_app (by with_unfolding_all rfl) ?_ | with_reducible refine few_and (by first | decide | (simp only [List.length_cons, List.length_nil, Nat.reduceAdd, Nat.reduceLeDiff])) ?_ | refine Or.inl ⟨by first | with_reducible rfl | with_reducible exact Bool.not_false, ?_⟩ | refine Or.inr ⟨by first | with_reducible rfl | with_reducible exact Bool.not_true, ?_⟩ | refine Exists.intro _ (Exists.intro _ ⟨rfl, rfl, gd rfl ?_⟩) | refine Exists.intro _ ⟨rfl, ?_⟩)
            refine gd (eq_one _) ?_
            show _ = PyData.bool (decide (0 < q) && _)
            rw [decide_eq_true c]
            rfl
          · refine .inr ⟨decide_eq_false (by omega), ?_⟩
            show _ = PyData.bool (decide (0 < q) && _)
            rw [decide_eq_false c]
            rfl
        | _ => exact .inr ⟨rfl, rfl⟩
      | _ => exact .inr ⟨rfl, rfl⟩
    · rw [decide_eq_false l, frac_not l]
      repeat (first | with_reducible refine s_seq ?_ | with_reducible refine s_if ?_ | with_reducible refine s_set ?_ | with_reducible refine s_setIx ?_ | with_reducible refine s_ret ?_ | with_reducible refine s_nil ?_ | with_reducible refine s_own ?_ | with_reducible refine s_par ?_ | with_reducible refine t_tst ?_ | with_reducible refine t_and ?_ | with_reducible refine t_or ?_ | with_reducible refine t_not ?_ | with_reducible refine t_yes ?_ | with_reducible refine e_op ?_ | with_reducible refine e_un ?_ | with_reducible refine e_chain ?_ | with_reducible refine e_b ?_ | with_reducible refine e_c ?_ | with_reducible refine e_l ?_ | with_reducible refine e_tup ?_ | with_reducible refine e_call ?_ | with_reducible refine e_and ?_ | with_reducible refine e_or ?_ | with_reducible refine e_not ?_ | with_reducible refine e_if ?_ | with_reducible refine e_sl ?_ | with_reducible refine o_n ?_ | with_reducible refine o_s ?_ | with_reducible refine a_nil ?_ | with_reducible refine a_cons ?_ | with_reducible refine f_lst ?_ | with_reducible refine f_call ?_ | with_reducible refine f_itA ?_ | with_reducible refine f_r1 ?_ | with_reducible refine r_seq ?_ | with_reducible refine n_add ?_ | with_reducible refine n_sub ?_ | with_reducible refine n_gt ?_ | with_reducible refine n_ge ?_ | with_reducible refine n_lt ?_ | with_reducible refine n_le ?_ | with_reducible refine e_var (by with_unfolding_all rfl) ?_ | with_reducible refine e_ixc (by with_unfolding_all rfl) ?_ | with_reducible refine e_callM (by with_unfolding_all rfl) ?_ | with_reducible refine s_frz (by with_unfolding_all rfl) ?_ | with_reducible refine s_app (by with_unfolding_all rfl) ?_ | with_reducible refine few_and (by first | decide | (simp only [List.length_cons, List.length_nil, Nat.reduceAdd, Nat.reduceLeDiff])) ?_ | refine Or.inl ⟨by first | with_reducible rfl | with_reducible exact Bool.not_false, ?_⟩ | refine Or.inr ⟨by first | with_reducible rfl | with_reducible exact Bool.not_true, ?_⟩ | refine Exists.intro _ (Exists.intro _ ⟨rfl, rfl, gd rfl ?_⟩) | refine Exists.intro _ ⟨rfl, ?_⟩)
      rfl
  · obtain ⟨e1, e2⟩ := not_tuple (fun ds z => c ⟨ds, z⟩) t
    rw [e2]
    refine gd e1 ?_
    repeat (first | with_reducible refine s_seq ?_ | with_reducible refine s_if ?_ | with_reducible refine s_set ?_ | with_reducible refine s_setIx ?_ | with_reducible refine s_ret ?_ | with_reducible refine s_nil ?_ | with_reducible refine s_own ?_ | with_reducible refine s_par ?_ | with_reducible refine t_tst ?_ | with_reducible refine t_and ?_ | with_reducible refine t_or ?_ | with_reducible refine t_not ?_ | with_reducible refine t_yes ?_ | with_reducible refine e_op ?_ | with_reducible refine e_un ?_ | with_reducible refine e_chain ?_ | with_reducible refine e_b ?_ | with_reducible refine e_c ?_ | with_reducible refine e_l ?_ | with_reducible refine e_tup ?_ | with_reducible refine e_call ?_ | with_reducible refine e_and ?_ | with_reducible refine e_or ?_ | with_reducible refine e_not ?_ | with_reducible refine e_if ?_ | with_reducible refine e_sl ?_ | with_reducible refine o_n ?_ | with_reducible refine o_s ?_ | with_reducible refine a_nil ?_ | with_reducible refine a_cons ?_ | with_reducible refine f_lst ?_ | with_reducible refine f_call ?_ | with_reducible refine f_itA ?_ | with_reducible refine f_r1 ?_ | with_reducible refine r_seq ?_ | with_reducible refine n_add ?_ | with_reducible refine n_sub ?_ | with_reducible refine n_gt ?_ | with_reducible refine n_ge ?_ | with_reducible refine n_lt ?_ | with_reducible refine n_le ?_ | with_reducible refine e_var (by with_unfolding_all rfl) ?_ | with_reducible refine e_ixc (by with_unfolding_all rfl) ?_ | with_reducible refine e_callM (by with_unfolding_all rfl) ?_ | with_reducible refine s_frz (by with_unfolding_all rfl) ?_ | with_reducible refine s_app (by with_unfolding_all rfl) ?_ | with_reducible refine few_and (by first | decide | (simp only [List.length_cons, List.length_nil, Nat.reduceAdd, Nat.reduceLeDiff])) ?_ | refine Or.inl ⟨by first | with_reducible rfl | with_reducible exact Bool.not_false, ?_⟩ | refine Or.inr ⟨by first | with_reducible rfl | with_reducible exact Bool.not_true, ?_⟩ | refine Exists.intro _ (Exists.intro _ ⟨rfl, rfl, gd rfl ?_⟩) | refine Exists.intro _ ⟨rfl, ?_⟩)
    rfl
theorem shaped_pair (a b c e : Int) : gEq (.tuple [.int a, .int b]) (.tuple [.int c, .int e]) = some (.bool (PyData.eqv (.tuple [.int a, .int b]) (.tuple [.int c, .int e]))) := rfl
theorem law_is_fraction_ok {d : PyData} (t : Th d) : Gd (m__law_is_fraction [d]) fun r => r = .bool (fracB d) := by
  unfold m__law_is_fraction
  refine m_fnP rfl ?_
  unfold b__law_is_fraction
  repeat (first | with_reducible refine s_seq ?_ | with_reducible refine s_if ?_ | with_reducible refine s_set ?_ | with_reducible refine s_setIx ?_ | with_reducible refine s_ret ?_ | with_reducible refine s_nil ?_ | with_reducible refine s_own ?_ | with_reducible refine s_par ?_ | with_reducible refine t_tst ?_ | with_reducible refine t_and ?_ | with_reducible refine t_or ?_ | with_reducible refine t_not ?_ | with_reducible refine t_yes ?_ | with_reducible refine e_op ?_ | with_reducible refine e_un ?_ | with_reducible refine e_chain ?_ | with_reducible refine e_b ?_ | with_reducible refine e_c ?_ | with_reducible refine e_l ?_ | with_reducible refine e_tup ?_ | with_reducible refine e_call ?_ | with_reducible refine e_and ?_ | with_reducible refine e_or ?_ | with_reducible refine e_not ?_ | with_reducible refine e_if ?_ | with_reducible refine e_sl ?_ | with_reducible refine o_n ?_ | with_reducible refine o_s ?_ | with_reducible refine a_nil ?_ | with_reducible refine a_cons ?_ | with_reducible refine f_lst ?_ | with_reducible refine f_call ?_ | with_reducible refine f_itA ?_ | with_reducible refine f_r1 ?_ | with_reducible refine r_seq ?_ | with_reducible refine n_add ?_ | with_reducible refine n_sub ?_ | with_reducible refine n_gt ?_ | with_reducible refine n_ge ?_ | with_reducible refine n_lt ?_ | with_reducible refine n_le ?_ | with_reducible refine e_var (by with_unfolding_all rfl) ?_ | with_reducible refine e_ixc (by with_unfolding_all rfl) ?_ | with_reducible refine e_callM (by with_unfolding_all rfl) ?_ | with_reducible refine s_frz (by with_unfolding_all rfl) ?_ | with_reducible refine s_app (by with_unfolding_all rfl) ?_ | with_reducible refine few_and (by first | decide | (simp only [List.length_cons, List.length_nil, Nat.reduceAdd, Nat.reduceLeDiff])) ?_ | refine Or.inl ⟨by first | with_reducible rfl | with_reducible exact Bool.not_false, ?_⟩ | refine Or.inr ⟨by first | with_reducible rfl | with_reducible exact Bool.not_true, ?_⟩ | refine Exists.intro _ (Exists.intro _ ⟨rfl, rfl, gd rfl ?_⟩) | refine Exists.intro _ ⟨rfl, ?_⟩)
  by_cases c : ∃ ds, d = .tuple ds
  · obtain ⟨ds, rfl⟩ := c
    refine gd (a := .bool true) rfl ?_
    repeat (first | with_reducible refine s_seq ?_ | with_reducible refine s_if ?_ | with_reducible refine s_set ?_ | with_reducible refine s_setIx ?_ | with_reducible refine s_ret ?_ | with_reducible refine s_nil ?_ | with_reducible refine s_own ?_ | with_reducible refine s_par ?_ | with_reducible refine t_tst ?_ | with_reducible refine t_and ?_ | with_reducible refine t_or ?_ | with_reducible refine t_not ?_ | with_reducible refine t_yes ?_ | with_reducible refine e_op ?_ | with_reducible refine e_un ?_ | with_reducible refine e_chain ?_ | with_reducible refine e_b ?_ | with_reducible refine e_c ?_ | with_reducible refine e_l ?_ | with_reducible refine e_tup ?_ | with_reducible refine e_call ?_ | with_reducible refine e_and ?_ | with_reducible refine e_or ?_ | with_reducible refine e_not ?_ | with_reducible refine e_if ?_ | with_reducible refine e_sl ?_ | with_reducible refine o_n ?_ | with_reducible refine o_s ?_ | with_reducible refine a_nil ?_ | with_reducible refine a_cons ?_ | with_reducible refine f_lst ?_ | with_reducible refine f_call ?_ | with_reducible refine f_itA ?_ | with_reducible refine f_r1 ?_ | with_reducible refine r_seq ?_ | with_reducible refine n_add ?_ | with_reducible refine n_sub ?_ | with_reducible refine n_gt ?_ | with_reducible refine n_ge ?_ | with_reducible refine n_lt ?_ | with_reducible refine n_le ?_ | with_reducible refine e_var (by with_unfolding_all rfl) ?_ | with_reducible refine e_ixc (by with_unfolding_all rfl) ?_ | with_reducible refine e_callM (by with_unfolding_all rfl) ?_ | with_reducible refine s_frz (by with_unfolding_all rfl) ?_ | with_reducible refine s_app (by with_unfolding_all rfl) ?_ | with_reducible refine few_and (by first | decide | (simp only [List.length_cons, List.length_nil, Nat.reduceAdd, Nat.reduceLeDiff])) ?_ | refine Or.inl ⟨by first | with_reducible rfl | with_reducible exact Bool.not_false, ?_⟩ | refine Or.inr ⟨by first | with_reducible rfl | with_reducible exact Bool.not_true, ?_⟩ | refine Exists.intro _ (Exists.intro _ ⟨rfl, rfl, gd rfl ?_⟩) | refine Exists.intro _ ⟨rfl, ?_⟩)
    refine gd (a := .int (ds.length : Nat)) rfl ?_
    repeat (first | with_reducible refine s_seq ?_ | with_reducible refine s_if ?_ | with_reducible refine s_set ?_ | with_reducible refine s_setIx ?_ | with_reducible refine s_ret ?_ | with_reducible refine s_nil ?_ | with_reducible refine s_own ?_ | with_reducible refine s_par ?_ | with_reducible refine t_tst ?_ | with_reducible refine t_and ?_ | with_reducible refine t_or ?_ | with_reducible refine t_not ?_ | with_reducible refine t_yes ?_ | with_reducible refine e_op ?_ | with_reducible refine e_un ?_ | with_reducible refine e_chain ?_ | with_reducible refine e_b ?_ | with_reducible refine e_c ?_ | with_reducible refine e_l ?_ | with_reducible refine e_tup ?_ | with_reducible refine e_call ?_ | with_reducible refine e_and ?_ | with_reducible refine e_or ?_ | with_reducible refine e_not ?_ | with_reducible refine e_if ?_ | with_reducible refine e_sl ?_ | with_reducible refine o_n ?_ | with_reducible refine o_s ?_ | with_reducible refine a_nil ?_ | with_reducible refine a_cons ?_ | with_reducible refine f_lst ?_ | with_reducible refine f_call ?_ | with_reducible refine f_itA ?_ | with_reducible refine f_r1 ?_ | with_reducible refine r_seq ?_ | with_reducible refine n_add ?_ | with_reducible refine n_sub ?_ | with_reducible refine n_gt ?_ | with_reducible refine n_ge ?_ | with_reducible refine n_lt ?_ | with_reducible refine n_le ?_ | with_reducible refine e_var (by with_unfolding_all rfl) ?_ | with_reducible refine e_ixc (by with_unfolding_all rfl) ?_ | with_reducible refine e_callM (by with_unfolding_all rfl) ?_ | with_reducible refine s_frz (by with_unfolding_all rfl) ?_ | with_reducible refine s_app (by with_unfolding_all rfl) ?_ | with_reducible refine few_and (by first | decide | (simp only [List.length_cons, List.length_nil, Nat.reduceAdd, Nat.reduceLeDiff])) ?_ | refine Or.inl ⟨by first | with_reducible rfl | with_reducible exact Bool.not_false, ?_⟩ | refine Or.inr ⟨by first | with_reducible rfl | with_reducible exact Bool.not_true, ?_⟩ | refine Exists.intro _ (Exists.intro _ ⟨rfl, rfl, gd rfl ?_⟩) | refine Exists.intro _ ⟨rfl, ?_⟩)
    refine gd (ne_two _) ?_
    by_cases l : ds.length = 2
    · rw [decide_eq_true l]
      obtain ⟨a, b, rfl⟩ := two_parts l
      obtain ⟨ta, tb, few⟩ := t
      repeat (first | with_reducible refine s_seq ?_ | with_reducible refine s_if ?_ | with_reducible refine s_set ?_ | with_reducible refine s_setIx ?_ | with_reducible refine s_ret ?_ | with_reducible refine s_nil ?_ | with_reducible refine s_own ?_ | with_reducible refine s_par ?_ | with_reducible refine t_tst ?_ | with_reducible refine t_and ?_ | with_reducible refine t_or ?_ | with_reducible refine t_not ?_ | with_reducible refine t_yes ?_ | with_reducible refine e_op ?_ | with_reducible refine e_un ?_ | with_reducible refine e_chain ?_ | with_reducible refine e_b ?_ | with_reducible refine e_c ?_ | with_reducible refine e_l ?_ | with_reducible refine e_tup ?_ | with_reducible refine e_call ?_ | with_reducible refine e_and ?_ | with_reducible refine e_or ?_ | with_reducible refine e_not ?_ | with_reducible refine e_if ?_ | with_reducible refine e_sl ?_ | with_reducible refine o_n ?_ | with_reducible refine o_s ?_ | with_reducible refine a_nil ?_ | with_reducible refine a_cons ?_ | with_reducible refine f_lst ?_ | with_reducible refine f_call ?_ | with_reducible refine f_itA ?_ | with_reducible refine f_r1 ?_ | with_reducible refine r_seq ?_ | with_reducible refine n_add ?_ | with_reducible refine n_sub ?_ | with_reducible refine n_gt ?_ | with_reducible refine n_ge ?_ | with_reducible refine n_lt ?_ | with_reducible refine n_le ?_ | with_reducible refine e_var (by with_unfolding_all rfl) ?_ | with_reducible refine e_ixc (by with_unfolding_all rfl) ?_ | with_reducible refine e_callM (by with_unfolding_all rfl) ?_ | with_reducible refine s_frz (by with_unfolding_all rfl) ?_ | with_reducible refine s_app (by with_unfolding_all rfl) ?_ | with_reducible refine few_and (by first | decide | (simp only [List.length_cons, List.length_nil, Nat.reduceAdd, Nat.reduceLeDiff])) ?_ | refine Or.inl ⟨by first | with_reducible rfl | with_reducible exact Bool.not_false, ?_⟩ | refine Or.inr ⟨by first | with_reducible rfl | with_reducible exact Bool.not_true, ?_⟩ | refine Exists.intro _ (Exists.intro _ ⟨rfl, rfl, gd rfl ?_⟩) | refine Exists.intro _ ⟨rfl, ?_⟩)
      refine gd (a := a) rfl ?_
      repeat (first | with_reducible refine s_seq ?_ | with_reducible refine s_if ?_ | with_reducible refine s_set ?_ | with_reducible refine s_setIx ?_ | with_reducible refine s_ret ?_ | with_reducible refine s_nil ?_ | with_reducible refine s_own ?_ | with_reducible refine s_par ?_ | with_reducible refine t_tst ?_ | with_reducible refine t_and ?_ | with_reducible refine t_or ?_ | with_reducible refine t_not ?_ | with_reducible refine t_yes ?_ | with_reducible refine e_op ?_ | with_reducible refine e_un ?_ | with_reducible refine e_chain ?_ | with_reducible refine e_b ?_ | with_reducible refine e_c ?_ | with_reducible refine e_l ?_ | with_reducible refine e_tup ?_ | with_reducible refine e_call ?_ | with_reducible refine e_and ?_ | with_reducible refine e_or ?_ | with_reducible refine e_not ?_ | with_reducible refine e_if ?_ | with_reducible refine e_sl ?_ | with_reducible refine o_n ?_ | with_reducible refine o_s ?_ | with_reducible refine a_nil ?_ | with_reducible refine a_cons ?_ | with_reducible refine f_lst ?_ | with_reducible refine f_call ?_ | with_reducible refine f_itA ?_ | with_reducible refine f_r1 ?_ | with_reducible refine r_seq ?_ | with_reducible refine n_add ?_ | with_reducible refine n_sub ?_ | with_reducible refine n_gt ?_ | with_reducible refine n_ge ?_ | with_reducible refine n_lt ?_ | with_reducible refine n_le ?_ | with_reducible refine e_var (by with_unfolding_all rfl) ?_ | with_reducible refine e_ixc (by with_unfolding_all rfl) ?_ | with_reducible refine e_callM (by with_unfolding_all rfl) ?_ | with_reducible refine s_frz (by with_unfolding_all rfl) ?_ | with_reducible refine s_app (by with_unfolding_all rfl) ?_ | with_reducible refine few_and (by first | decide | (simp only [List.length_cons, List.length_nil, Nat.reduceAdd, Nat.reduceLeDiff])) ?_ | refine Or.inl ⟨by first | with_reducible rfl | with_reducible exact Bool.not_false, ?_⟩ | refine Or.inr ⟨by first | with_reducible rfl | with_reducible exact Bool.not_true, ?_⟩ | refine Exists.intro _ (Exists.intro _ ⟨rfl, rfl, gd rfl ?_⟩) | refine Exists.intro _ ⟨rfl, ?_⟩)
      refine gd_mono (law_whole_ok ta) fun r hr => ?_
      subst hr
      repeat (first | with_reducible refine s_seq ?_ | with_reducible refine s_if ?_ | with_reducible refine s_set ?_ | with_reducible refine s_setIx ?_ | with_reducible refine s_ret ?_ | with_reducible refine s_nil ?_ | with_reducible refine s_own ?_ | with_reducible refine s_par ?_ | with_reducible refine t_tst ?_ | with_reducible refine t_and ?_ | with_reducible refine t_or ?_ | with_reducible refine t_not ?_ | with_reducible refine t_yes ?_ | with_reducible refine e_op ?_ | with_reducible refine e_un ?_ | with_reducible refine e_chain ?_ | with_reducible refine e_b ?_ | with_reducible refine e_c ?_ | with_reducible refine e_l ?_ | with_reducible refine e_tup ?_ | with_reducible refine e_call ?_ | with_reducible refine e_and ?_ | with_reducible refine e_or ?_ | with_reducible refine e_not ?_ | with_reducible refine e_if ?_ | with_reducible refine e_sl ?_ | with_reducible refine o_n ?_ | with_reducible refine o_s ?_ | with_reducible refine a_nil ?_ | with_reducible refine a_cons ?_ | with_reducible refine f_lst ?_ | with_reducible refine f_call ?_ | with_reducible refine f_itA ?_ | with_reducible refine f_r1 ?_ | with_reducible refine r_seq ?_ | with_reducible refine n_add ?_ | with_reducible refine n_sub ?_ | with_reducible refine n_gt ?_ | with_reducible refine n_ge ?_ | with_reducible refine n_lt ?_ | with_reducible refine n_le ?_ | with_reducible refine e_var (by with_unfolding_all rfl) ?_ | with_reducible refine e_ixc (by with_unfolding_all rfl) ?_ | with_reducible refine e_callM (by with_unfolding_all rfl) ?_ | with_reducible refine s_frz (by with_unfolding_all rfl) ?_ | with_reducible refine s_app (by with_unfolding_all rfl) ?_ | with_reducible refine few_and (by first | decide | (simp only [List.length_cons, List.length_nil, Nat.reduceAdd, Nat.reduceLeDiff])) ?_ | refine Or.inl ⟨by first | with_reducible rfl | with_reducible exact Bool.not_false, ?_⟩ | refine Or.inr ⟨by first | with_reducible rfl | with_reducible exact Bool.not_true, ?_⟩ | refine Exists.intro _ (Exists.intro _ ⟨rfl, rfl, gd rfl ?_⟩) | refine Exists.intro _ ⟨rfl, ?_⟩)
      cases a with
      | int p =>
        refine .inr ⟨rfl, ?_⟩
        repeat (first | with_reducible refine s_seq ?_ | with_reducible refine s_if ?_ | with_reducible refine s_set ?_ | with_reducible refine s_setIx ?_ | with_reducible refine s_ret ?_ | with_reducible refine s_nil ?_ | with_reducible refine s_own ?_ | with_reducible refine s_par ?_ | with_reducible refine t_tst ?_ | with_reducible refine t_and ?_ | with_reducible refine t_or ?_ | with_reducible refine t_not ?_ | with_reducible refine t_yes ?_ | with_reducible refine e_op ?_ | with_reducible refine e_un ?_ | with_reducible refine e_chain ?_ | with_reducible refine e_b ?_ | with_reducible refine e_c ?_ | with_reducible refine e_l ?_ | with_reducible refine e_tup ?_ | with_reducible refine e_call ?_ | with_reducible refine e_and ?_ | with_reducible refine e_or ?_ | with_reducible refine e_not ?_ | with_reducible refine e_if ?_ | with_reducible refine e_sl ?_ | with_reducible refine o_n ?_ | with_reducible refine o_s ?_ | with_reducible refine a_nil ?_ | with_reducible refine a_cons ?_ | with_reducible refine f_lst ?_ | with_reducible refine f_call ?_ | with_reducible refine f_itA ?_ | with_reducible refine f_r1 ?_ | with_reducible refine r_seq ?_ | with_reducible refine n_add ?_ | with_reducible refine n_sub ?_ | with_reducible refine n_gt ?_ | with_reducible refine n_ge ?_ | with_reducible refine n_lt ?_ | with_reducible refine n_le ?_ | with_reducible refine e_var (by with_unfolding_all rfl) ?_ | with_reducible refine e_ixc (by with_unfolding_all rfl) ?_ | with_reducible refine e_callM (by with_unfolding_all rfl) ?_ | with_reducible refine s_frz (by with_unfolding_all rfl) ?_ | with_reducible refine s_app (by with_unfolding_all rfl) ?_ | with_reducible refine few_and (by first | decide | (simp only [List.length_cons, List.length_nil, Nat.reduceAdd, Nat.reduceLeDiff])) ?_ | refine Or.inl ⟨by first | with_reducible rfl | with_reducible exact Bool.not_false, ?_⟩ | refine Or.inr ⟨by first | with_reducible rfl | with_reducible exact Bool.not_true, ?_⟩ | refine Exists.intro _ (Exists.intro _ ⟨rfl, rfl, gd rfl ?_⟩) | refine Exists.intro _ ⟨rfl, ?_⟩)
        refine gd (a := b) rfl ?_
        repeat (first | with_reducible refine s_seq ?_ | with_reducible refine s_if ?_ | with_reducible refine s_set ?_ | with_reducible refine s_setIx ?_ | with_reducible refine s_ret ?_ | with_reducible refine s_nil ?_ | with_reducible refine s_own ?_ | with_reducible refine s_par ?_ | with_reducible refine t_tst ?_ | with_reducible refine t_and ?_ | with_reducible refine t_or ?_ | with_reducible refine t_not ?_ | with_reducible refine t_yes ?_ | with_reducible refine e_op ?_ | with_reducible refine e_un ?_ | with_reducible refine e_chain ?_ | with_reducible refine e_b ?_ | with_reducible refine e_c ?_ | with_reducible refine e_l ?_ | with_reducible refine e_tup ?_ | with_reducible refine e_call ?_ | with_reducible refine e_and ?_ | with_reducible refine e_or ?_ | with_reducible refine e_not ?_ | with_reducible refine e_if ?_ | with_reducible refine e_sl ?_ | with_reducible refine o_n ?_ | with_reducible refine o_s ?_ | with_reducible refine a_nil ?_ | with_reducible refine a_cons ?_ | with_reducible refine f_lst ?_ | with_reducible refine f_call ?_ | with_reducible refine f_itA ?_ | with_reducible refine f_r1 ?_ | with_reducible refine r_seq ?_ | with_reducible refine n_add ?_ | with_reducible refine n_sub ?_ | with_reducible refine n_gt ?_ | with_reducible refine n_ge ?_ | with_reducible refine n_lt ?_ | with_reducible refine n_le ?_ | with_reducible refine e_var (by with_unfolding_all rfl) ?_ | with_reducible refine e_ixc (by with_unfolding_all rfl) ?_ | with_reducible refine e_callM (by with_unfolding_all rfl) ?_ | with_reducible refine s_frz (by with_unfolding_all rfl) ?_ | with_reducible refine s_app (by with_unfolding_all rfl) ?_ | with_reducible refine few_and (by first | decide | (simp only [List.length_cons, List.length_nil, Nat.reduceAdd, Nat.reduceLeDiff])) ?_ | refine Or.inl ⟨by first | with_reducible rfl | with_reducible exact Bool.not_false, ?_⟩ | refine Or.inr ⟨by first | with_reducible rfl | with_reducible exact Bool.not_true, ?_⟩ | refine Exists.intro _ (Exists.intro _ ⟨rfl, rfl, gd rfl ?_⟩) | refine Exists.intro _ ⟨rfl, ?_⟩)
        refine gd_mono (law_whole_ok tb) fun r hr => ?_
        subst hr
        repeat (first | with_reducible refine s_seq ?_ | with_reducible refine s_if ?_ | with_reducible refine s_set ?_ | with_reducible refine s_setIx ?_ | with_reducible refine s_ret ?_ | with_reducible refine s_nil ?_ | with_reducible refine s_own ?_ | with_reducible refine s_par ?_ | with_reducible refine t_tst ?_ | with_reducible refine t_and ?_ | with_reducible refine t_or ?_ | with_reducible refine t_not ?_ | with_reducible refine t_yes ?_ | with_reducible refine e_op ?_ | with_reducible refine e_un ?_ | with_reducible refine e_chain ?_ | with_reducible refine e_b ?_ | with_reducible refine e_c ?_ | with_reducible refine e_l ?_ | with_reducible refine e_tup ?_ | with_reducible refine e_call ?_ | with_reducible refine e_and ?_ | with_reducible refine e_or ?_ | with_reducible refine e_not ?_ | with_reducible refine e_if ?_ | with_reducible refine e_sl ?_ | with_reducible refine o_n ?_ | with_reducible refine o_s ?_ | with_reducible refine a_nil ?_ | with_reducible refine a_cons ?_ | with_reducible refine f_lst ?_ | with_reducible refine f_call ?_ | with_reducible refine f_itA ?_ | with_reducible refine f_r1 ?_ | with_reducible refine r_seq ?_ | with_reducible refine n_add ?_ | with_reducible refine n_sub ?_ | with_reducible refine n_gt ?_ | with_reducible refine n_ge ?_ | with_reducible refine n_lt ?_ | with_reducible refine n_le ?_ | with_reducible refine e_var (by with_unfolding_all rfl) ?_ | with_reducible refine e_ixc (by with_unfolding_all rfl) ?_ | with_reducible refine e_callM (by with_unfolding_all rfl) ?_ | with_reducible refine s_frz (by with_unfolding_all rfl) ?_ | with_reducible refine s_app (by with_unfolding_all rfl) ?_ | with_reducible refine few_and (by first | decide | (simp only [List.length_cons, List.length_nil, Nat.reduceAdd, Nat.reduceLeDiff])) ?_ | refine Or.inl ⟨by first | with_reducible rfl | with_reducible exact Bool.not_false, ?_⟩ | refine Or.inr ⟨by first | with_reducible rfl | with_reducible exact Bool.not_true, ?_⟩ | refine Exists.intro _ (Exists.intro _ ⟨rfl, rfl, gd rfl ?_⟩) | refine Exists.intro _ ⟨rfl, ?_⟩)
        cases b with
        | int q =>
          refine .inr ⟨rfl, ?_⟩
          repeat (first | with_reducible refine s_seq ?_ | with_reducible refine s_if ?_ | with_reducible refine s_set ?_ | with_reducible refine s_setIx ?_ | with_reducible refine s_ret ?_ | with_reducible refine s_nil ?_ | with_reducible refine s_own ?_ | with_reducible refine s_par ?_ | with_reducible refine t_tst ?_ | with_reducible refine t_and ?_ | with_reducible refine t_or ?_ | with_reducible refine t_not ?_ | with_reducible refine t_yes ?_ | with_reducible refine e_op ?_ | with_reducible refine e_un ?_ | with_reducible refine e_chain ?_ | with_reducible refine e_b ?_ | with_reducible refine e_c ?_ | with_reducible refine e_l ?_ | with_reducible refine e_tup ?_ | with_reducible refine e_call ?_ | with_reducible refine e_and ?_ | with_reducible refine e_or ?_ | with_reducible refine e_not ?_ | with_reducible refine e_if ?_ | with_reducible refine e_sl ?_ | with_reducible refine o_n ?_ | with_reducible refine o_s ?_ | with_reducible refine a_nil ?_ | with_reducible refine a_cons ?_ | with_reducible refine f_lst ?_ | with_reducible refine f_call ?_ | with_reducible refine f_itA ?_ | with_reducible refine f_r1 ?_ | with_reducible refine r_seq ?_ | with_reducible refine n_add ?_ | with_reducible refine n_sub ?_ | with_reducible refine n_gt ?_ | with_reducible refine n_ge ?_ | with_reducible refine n_lt ?_ | with_reducible refine n_le ?_ | with_reducible refine e_var (by with_unfolding_all rfl) ?_ | with_reducible refine e_ixc (by with_unfolding_all rfl) ?_ | with_reducible refine e_callM (by with_unfolding_all rfl) ?_ | with_reducible refine s_frz (by with_unfolding_all rfl) ?_ | with_reducible refine s_app (by with_unfolding_all rfl) ?_ | with_reducible refine few_and (by first | decide | (simp only [List.length_cons, List.length_nil, Nat.reduceAdd, Nat.reduceLeDiff])) ?_ | refine Or.inl ⟨by first | with_reducible rfl | with_reducible exact Bool.not_false, ?_⟩ | refine Or.inr ⟨by first | with_reducible rfl | with_reducible exact Bool.not_true, ?_⟩ | refine Exists.intro _ (Exists.intro _ ⟨rfl, rfl, gd rfl ?_⟩) | refine Exists.intro _ ⟨rfl, ?_⟩)
          refine gd (a := .int q) rfl ?_
          repeat (first | with_reducible refine s_seq ?_ | with_reducible refine s_if ?_ | with_reducible refine s_set ?_ | with_reducible refine s_setIx ?_ | with_reducible refine s_ret ?_ | with_reducible refine s_nil ?_ | with_reducible refine s_own ?_ | with_reducible refine s_par ?_ | with_reducible refine t_tst ?_ | with_reducible refine t_and ?_ | with_reducible refine t_or ?_ | with_reducible refine t_not ?_ | with_reducible refine t_yes ?_ | with_reducible refine e_op ?_ | with_reducible refine e_un ?_ | with_reducible refine e_chain ?_ | with_reducible refine e_b ?_ | with_reducible refine e_c ?_ | with_reducible refine e_l ?_ | with_reducible refine e_tup ?_ | with_reducible refine e_call ?_ | with_reducible refine e_and ?_ | with_reducible refine e_or ?_ | with_reducible refine e_not ?_ | with_reducible refine e_if ?_ | with_reducible refine e_sl ?_ | with_reducible refine o_n ?_ | with_reducible refine o_s ?_ | with_reducible refine a_nil ?_ | with_reducible refine a_cons ?_ | with_reducible refine f_lst ?_ | with_reducible refine f_call ?_ | with_reducible refine f_itA ?_ | with_reducible refine f_r1 ?_ | with_reducible refine r_seq ?_ | with_reducible refine n_add ?_ | with_reducible refine n_sub ?_ | with_reducible refine n_gt ?_ | with_reducible refine n_ge ?_ | with_reducible refine n_lt ?_ | with_reducible refine n_le ?_ | with_reducible refine e_var (by with_unfolding_all rfl) ?_ | with_reducible refine e_ixc (by with_unfolding_all rfl) ?_ | with_reducible refine e_callM (by with_unfolding_all rfl) ?_ | with_reducible refine s_frz (by with_unfolding_all rfl) ?_ | with_reducible refine s_app (by with_unfolding_all rfl) ?_ | with_reducible refine few_and (by first | decide | (simp only [List.length_cons, List.length_nil, Nat.reduceAdd, Nat.reduceLeDiff])) ?_ | refine Or.inl ⟨by first | with_reducible rfl | with_reducible exact Bool.not_false, ?_⟩ | refine Or.inr ⟨by first | with_reducible rfl | with_reducible exact Bool.not_true, ?_⟩ | refine Exists.intro _ (Exists.intro _ ⟨rfl, rfl, gd rfl ?_⟩) | refine Exists.intro _ ⟨rfl, ?_⟩)
          by_cases c : 0 < q
          · refine .inl ⟨decide_eq_true c, ?_⟩
            repeat (first | with_reducible refine s_seq ?_ | with_reducible refine s_if ?_ | with_reducible refine s_set ?_ | with_reducible refine s_setIx ?_ | with_reducible refine s_ret ?_ | with_reducible refine s_nil ?_ | with_reducible refine s_own ?_ | with_reducible refine s_par ?_ | with_reducible refine t_tst ?_ | with_reducible refine t_and ?_ | with_reducible refine t_or ?_ | with_reducible refine t_not ?_ | with_reducible refine t_yes ?_ | with_reducible refine e_op ?_ | with_reducible refine e_un ?_ | with_reducible refine e_chain ?_ | with_reducible refine e_b ?_ | with_reducible refine e_c ?_ | with_reducible refine e_l ?_ | with_reducible refine e_tup ?_ | with_reducible refine e_call ?_ | with_reducible refine e_and ?_ | with_reducible refine e_or ?_ | with_reducible refine e_not ?_ | with_reducible refine e_if ?_ | with_reducible refine e_sl ?_ | with_reducible refine o_n ?_ | with_reducible refine o_s ?_ | with_reducible refine a_nil ?_ | with_reducible refine a_cons ?_ | with_reducible refine f_lst ?_ | with_reducible refine f_call ?_ | with_reducible refine f_itA ?_ | with_reducible refine f_r1 ?_ | with_reducible refine r_seq ?_ | with_reducible refine n_add ?_ | with_reducible refine n_sub ?_ | with_reducible refine n_gt ?_ | with_reducible refine n_ge ?_ | with_reducible refine n_lt ?_ | with_reducible refine n_le ?_ | with_reducible refine e_var (by with_unfolding_all rfl) ?_ | with_reducible refine e_ixc (by with_unfolding_all rfl) ?_ | with_reducible refine e_callM (by with_unfolding_all rfl) ?_ | with_reducible refine s_frz (by with_unfolding_all rfl) ?_ | with_reducible refine s_app (by with_unfolding_all rfl) ?_ | with_reducible refine few_and (by first | decide | (simp only [List.length_cons, List.length_nil, Nat.reduceAdd, Nat.reduceLeDiff])) ?_ | refine Or.inl ⟨by first | with_reducible rfl | with_reducible exact Bool.not_false, ?_⟩ | refine Or.inr ⟨by first | with_reducible rfl | with_reducible exact Bool.not_true, ?_⟩ | refine Exists.intro _ (Exists.intro _ ⟨rfl, rfl, gd rfl ?_⟩) | refine Exists.intro _ ⟨rfl, ?_⟩)
            refine gd (a := .int p) rfl ?_
            repeat (first | with_reducible refine s_seq ?_ | with_reducible refine s_if ?_ | with_reducible refine s_set ?_ | with_reducible refine s_setIx ?_ | with_reducible refine s_ret ?_ | with_reducible refine s_nil ?_ | with_reducible refine s_own ?_ | with_reducible refine s_par ?_ | with_reducible refine t_tst ?_ | with_reducible refine t_and ?_ | with_reducible refine t_or ?_ | with_reducible refine t_not ?_ | with_reducible refine t_yes ?_ | with_reducible refine e_op ?_ | with_reducible refine e_un ?_ | with_reducible refine e_chain ?_ | with_reducible refine e_b ?_ | with_reducible refine e_c ?_ | with_reducible refine e_l ?_ | with_reducible refine e_tup ?_ | with_reducible refine e_call ?_ | with_reducible refine e_and ?_ | with_reducible refine e_or ?_ | with_reducible refine e_not ?_ | with_reducible refine e_if ?_ | with_reducible refine e_sl ?_ | with_reducible refine o_n ?_ | with_reducible refine o_s ?_ | with_reducible refine a_nil ?_ | with_reducible refine a_cons ?_ | with_reducible refine f_lst ?_ | with_reducible refine f_call ?_ | with_reducible refine f_itA ?_ | with_reducible refine f_r1 ?_ | with_reducible refine r_seq ?_ | with_reducible refine n_add ?_ | with_reducible refine n_sub ?_ | with_reducible refine n_gt ?_ | with_reducible refine n_ge ?_ | with_reducible refine n_lt ?_ | with_reducible refine n_le ?_ | with_reducible refine e_var (by with_unfolding_all rfl) ?_ | with_reducible refine e_ixc (by with_unfolding_all rfl) ?_ | with_reducible refine e_callM (by with_unfolding_all rfl) ?_ | with_reducible refine s_frz (by with_unfolding_all rfl) ?_ | with_reducible refine s_app (by with_unfolding_all rfl) ?_ | with_reducible refine few_and (by first | decide | (simp only [List.length_cons, List.length_nil, Nat.reduceAdd, Nat.reduceLeDiff])) ?_ | refine Or.inl ⟨by first | with_reducible rfl | with_reducible exact Bool.not_false, ?_⟩ | refine Or.inr ⟨by first | with_reducible rfl | with_reducible exact Bool.not_true, ?_⟩ | refine Exists.intro _ (Exists.intro _ ⟨rfl, rfl, gd rfl ?_⟩) | refine Exists.intro _ ⟨rfl, ?_⟩)
            refine gd (a := .int q) rfl ?_
            repeat (first | with_reducible refine s_seq ?_ | with_reducible refine s_if ?_ | with_reducible refine s_set ?_ | with_reducible refine s_setIx ?_ | with_reducible refine s_ret ?_ | with_reducible refine s_nil ?_ | with_reducible refine s_own ?_ | with_reducible refine s_par ?_ | with_reducible refine t_tst ?_ | with_reducible refine t_and ?_ | with_reducible refine t_or ?_ | with_reducible refine t_not ?_ | with_reducible refine t_yes ?_ | with_reducible refine e_op ?_ | with_reducible refine e_un ?_ | with_reducible refine e_chain ?_ | with_reducible refine e_b ?_ | with_reducible refine e_c ?_ | with_reducible refine e_l ?_ | with_reducible refine e_tup ?_ | with_reducible refine e_call ?_ | with_reducible refine e_and ?_ | with_reducible refine e_or ?_ | with_reducible refine e_not ?_ | with_reducible refine e_if ?_ | with_reducible refine e_sl ?_ | with_reducible refine o_n ?_ | with_reducible refine o_s ?_ | with_reducible refine a_nil ?_ | with_reducible refine a_cons ?_ | with_reducible refine f_lst ?_ | with_reducible refine f_call ?_ | with_reducible refine f_itA ?_ | with_reducible refine f_r1 ?_ | with_reducible refine r_seq ?_ | with_reducible refine n_add ?_ | with_reducible refine n_sub ?_ | with_reducible refine n_gt ?_ | with_reducible refine n_ge ?_ | with_reducible refine n_lt ?_ | with_reducible refine n_le ?_ | with_reducible refine e_var (by with_unfolding_all rfl) ?_ | with_reducible refine e_ixc (by with_unfolding_all rfl) ?_ | with_reducible refine e_callM (by with_unfolding_all rfl) ?_ | with_reducible refine s_frz (by with_unfolding_all rfl) ?_ | with_reducible refine s_app (by with_unfolding_all rfl) ?_ | with_reducible refine few_and (by first | decide | (simp only [List.length_cons, List.length_nil, Nat.reduceAdd, Nat.reduceLeDiff])) ?_ | refine Or.inl ⟨by first | with_reducible rfl | with_reducible exact Bool.not_false, ?_⟩ | refine Or.inr ⟨by first | with_reducible rfl | with_reducible exact Bool.not_true, ?_⟩ | refine Exists.intro _ (Exists.intro _ ⟨rfl, rfl, gd rfl ?_⟩) | refine Exists.intro _ ⟨rfl, ?_⟩)
            refine gd_mono (law_fraction_ok (p := p) (q := q) (by omega) (few q rfl)) fun r hr => ?_
            subst hr
            repeat (first | with_reducible refine s_seq ?_ | with_reducible refine s_if ?_ | with_reducible refine s_set ?_ | with_reducible refine s_setIx ?_ | with_reducible refine s_ret ?_ | with_reducible refine s_nil ?_ | with_reducible refine s_own ?_ | with_reducible refine s_par ?_ | with_reducible refine t_tst ?_ | with_reducible refine t_and ?_ | with_reducible refine t_or ?_ | with_reducible refine t_not ?_ | with_reducible refine t_yes ?_ | with_reducible refine e_op ?_ | with_reducible refine e_un ?_ | with_reducible refine e_chain ?_ | with_reducible refine e_b ?_ | with_reducible refine e_c ?_ | with_reducible refine e_l ?_ | with_reducible refine e_tup ?_ | with_reducible refine e_call ?_ | with_reducible refine e_and ?_ | with_reducible refine e_or ?_ | with_reducible refine e_not ?_ | with_reducible refine e_if ?_ | with_reducible refine e_sl ?_ | with_reducible refine o_n ?_ | with_reducible refine o_s ?_ | with_reducible refine a_nil ?_ | with_reducible refine a_cons ?_ | with_reducible refine f_lst ?_ | with_reducible refine f_call ?_ | with_reducible refine f_itA ?_ | with_reducible refine f_r1 ?_ | with_reducible refine r_seq ?_ | with_reducible refine n_add ?_ | with_reducible refine n_sub ?_ | with_reducible refine n_gt ?_ | with_reducible refine n_ge ?_ | with_reducible refine n_lt ?_ | with_reducible refine n_le ?_ | with_reducible refine e_var (by with_unfolding_all rfl) ?_ | with_reducible refine e_ixc (by with_unfolding_all rfl) ?_ | with_reducible refine e_callM (by with_unfolding_all rfl) ?_ | with_reducible refine s_frz (by with_unfolding_all rfl) ?_ | with_reducible refine s_app (by with_unfolding_all rfl) ?_ | with_reducible refine few_and (by first | decide | (simp only [List.length_cons, List.length_nil, Nat.reduceAdd, Nat.reduceLeDiff])) ?_ | refine Or.inl ⟨by first | with_reducible rfl | with_reducible exact Bool.not_false, ?_⟩ | refine Or.inr ⟨by first | with_reducible rfl | with_reducible exact Bool.not_true, ?_⟩ | refine Exists.intro _ (Exists.intro _ ⟨rfl, rfl, gd rfl ?_⟩) | refine Exists.intro _ ⟨rfl, ?_⟩)
            obtain ⟨x, y, _, _, _, _, f⟩ := parts (p := p) (q := q) (by omega)
            have e := F_same (p := p) c
            rw [f] at e ⊢
            refine gd (shaped_pair _ _ _ _) ?_
            rw [e]
            show _ = PyData.bool (decide (0 < q) && _)
            rw [decide_eq_true c]
            rfl
          · refine .inr ⟨decide_eq_false c, ?_⟩
            show _ = PyData.bool (decide (0 < q) && _)
            rw [decide_eq_false c]
            rfl
        | _ =>
          refine .inl ⟨rfl, ?_⟩
          repeat (first | with_reducible refine s_seq ?_ | with_reducible refine s_if ?_ | with_reducible refine s_set ?_ | with_reducible refine s_setIx ?_ | with_reducible refine s_ret ?_ | with_reducible refine s_nil ?_ | with_reducible refine s_own ?_ | with_reducible refine s_par ?_ | with_reducible refine t_tst ?_ | with_reducible refine t_and ?_ | with_reducible refine t_or ?_ | with_reducible refine t_not ?_ | with_reducible refine t_yes ?_ | with_reducible refine e_op ?_ | with_reducible refine e_un ?_ | with_reducible refine e_chain ?_ | with_reducible refine e_b ?_ | with_reducible refine e_c ?_ | with_reducible refine e_l ?_ | with_reducible refine e_tup ?_ | with_reducible refine e_call ?_ | with_reducible refine e_and ?_ | with_reducible refine e_or ?_ | with_reducible refine e_not ?_ | with_reducible refine e_if ?_ | with_reducible refine e_sl ?_ | with_reducible refine o_n ?_ | with_reducible refine o_s ?_ | with_reducible refine a_nil ?_ | with_reducible refine a_cons ?_ | with_reducible refine f_lst ?_ | with_reducible refine f_call ?_ | with_reducible refine f_itA ?_ | with_reducible refine f_r1 ?_ | with_reducible refine r_seq ?_ | with_reducible refine n_add ?_ | with_reducible refine n_sub ?_ | with_reducible refine n_gt ?_ | with_reducible refine n_ge ?_ | with_reducible refine n_lt ?_ | with_reducible refine n_le ?_ | with_reducible refine e_var (by with_unfolding_all rfl) ?_ | with_reducible refine e_ixc (by with_unfolding_all rfl) ?_ | with_reducible refine e_callM (by with_unfolding_all rfl) ?_ | with_reducible refine s_frz (by with_unfolding_all rfl) ?_ | with_reducible refine s_app (by with_unfolding_all rfl) ?_ | with_reducible refine few_and (by first | decide | (simp only [List.length_cons, List.length_nil, Nat.reduceAdd, Nat.reduceLeDiff])) ?_ | refine Or.inl ⟨by first | with_reducible rfl | with_reducible exact Bool.not_false, ?_⟩ | refine Or.inr ⟨by first | with_reducible rfl | with_reducible exact Bool.not_true, ?_⟩ | refine Exists.intro _ (Exists.intro _ ⟨rfl, rfl, gd rfl ?_⟩) | refine Exists.intro _ ⟨rfl, ?_⟩)
          rfl
      | _ =>
        refine .inl ⟨rfl, ?_⟩
        repeat (first | with_reducible refine s_seq ?_ | with_reducible refine s_if ?_ | with_reducible refine s_set ?_ | with_reducible refine s_setIx ?_ | with_reducible refine s_ret ?_ | with_reducible refine s_nil ?_ | with_reducible refine s_own ?_ | with_reducible refine s_par ?_ | with_reducible refine t_tst ?_ | with_reducible refine t_and ?_ | with_reducible refine t_or ?_ | with_reducible refine t_not ?_ | with_reducible refine t_yes ?_ | with_reducible refine e_op ?_ | with_reducible refine e_un ?_ | with_reducible refine e_chain ?_ | with_reducible refine e_b ?_ | with_reducible refine e_c ?_ | with_reducible refine e_l ?_ | with_reducible refine e_tup ?_ | with_reducible refine e_call ?_ | with_reducible refine e_and ?_ | with_reducible refine e_or ?_ | with_reducible refine e_not ?_ | with_reducible refine e_if ?_ | with_reducible refine e_sl ?_ | with_reducible refine o_n ?_ | with_reducible refine o_s ?_ | with_reducible refine a_nil ?_ | with_reducible refine a_cons ?_ | with_reducible refine f_lst ?_ | with_reducible refine f_call ?_ | with_reducible refine f_itA ?_ | with_reducible refine f_r1 ?_ | with_reducible refine r_seq ?_ | with_reducible refine n_add ?_ | with_reducible refine n_sub ?_ | with_reducible refine n_gt ?_ | with_reducible refine n_ge ?_ | with_reducible refine n_lt ?_ | with_reducible refine n_le ?_ | with_reducible refine e_var (by with_unfolding_all rfl) ?_ | with_reducible refine e_ixc (by with_unfolding_all rfl) ?_ | with_reducible refine e_callM (by with_unfolding_all rfl) ?_ | with_reducible refine s_frz (by with_unfolding_all rfl) ?_ | with_reducible refine s_app (by with_unfolding_all rfl) ?_ | with_reducible refine few_and (by first | decide | (simp only [List.length_cons, List.length_nil, Nat.reduceAdd, Nat.reduceLeDiff])) ?_ | refine Or.inl ⟨by first | with_reducible rfl | with_reducible exact Bool.not_false, ?_⟩ | refine Or.inr ⟨by first | with_reducible rfl | with_reducible exact Bool.not_true, ?_⟩ | refine Exists.intro _ (Exists.intro _ ⟨rfl, rfl, gd rfl ?_⟩) | refine Exists.intro _ ⟨rfl, ?_⟩)
        rfl
    · rw [decide_eq_false l, frac_not l]
      repeat (first | with_reducible refine s_seq ?_ | with_reducible refine s_if ?_ | with_reducible refine s_set ?_ | with_reducible refine s_setIx ?_ | with_reducible refine s_ret ?_ | with_reducible refine s_nil ?_ | with_reducible refine s_own ?_ | with_reducible refine s_par ?_ | with_reducible refine t_tst ?_ | with_reducible refine t_and ?_ | with_reducible refine t_or ?_ | with_reducible refine t_not ?_ | with_reducible refine t_yes ?_ | with_reducible refine e_op ?_ | with_reducible refine e_un ?_ | with_reducible refine e_chain ?_ | with_reducible refine e_b ?_ | with_reducible refine e_c ?_ | with_reducible refine e_l ?_ | with_reducible refine e_tup ?_ | with_reducible refine e_call ?_ | with_reducible refine e_and ?_ | with_reducible refine e_or ?_ | with_reducible refine e_not ?_ | with_reducible refine e_if ?_ | with_reducible refine e_sl ?_ | with_reducible refine o_n ?_ | with_reducible refine o_s ?_ | with_reducible refine a_nil ?_ | with_reducible refine a_cons ?_ | with_reducible refine f_lst ?_ | with_reducible refine f_call ?_ | with_reducible refine f_itA ?_ | with_reducible refine f_r1 ?_ | with_reducible refine r_seq ?_ | with_reducible refine n_add ?_ | with_reducible refine n_sub ?_ | with_reducible refine n_gt ?_ | with_reducible refine n_ge ?_ | with_reducible refine n_lt ?_ | with_reducible refine n_le ?_ | with_reducible refine e_var (by with_unfolding_all rfl) ?_ | with_reducible refine e_ixc (by with_unfolding_all rfl) ?_ | with_reducible refine e_callM (by with_unfolding_all rfl) ?_ | with_reducible refine s_frz (by with_unfolding_all rfl) ?_ | with_reducible refine s_app (by with_unfolding_all rfl) ?_ | with_reducible refine few_and (by first | decide | (simp only [List.length_cons, List.length_nil, Nat.reduceAdd, Nat.reduceLeDiff])) ?_ | refine Or.inl ⟨by first | with_reducible rfl | with_reducible exact Bool.not_false, ?_⟩ | refine Or.inr ⟨by first | with_reducible rfl | with_reducible exact Bool.not_true, ?_⟩ | refine Exists.intro _ (Exists.intro _ ⟨rfl, rfl, gd rfl ?_⟩) | refine Exists.intro _ ⟨rfl, ?_⟩)
      rfl
  · obtain ⟨e1, e2⟩ := not_tuple (fun ds z => c ⟨ds, z⟩) t
    rw [e2]
    refine gd e1 ?_
    repeat (first | with_reducible refine s_seq ?_ | with_reducible refine s_if ?_ | with_reducible refine s_set ?_ | with_reducible refine s_setIx ?_ | with_reducible refine s_ret ?_ | with_reducible refine s_nil ?_ | with_reducible refine s_own ?_ | with_reducible refine s_par ?_ | with_reducible refine t_tst ?_ | with_reducible refine t_and ?_ | with_reducible refine t_or ?_ | with_reducible refine t_not ?_ | with_reducible refine t_yes ?_ | with_reducible refine e_op ?_ | with_reducible refine e_un ?_ | with_reducible refine e_chain ?_ | with_reducible refine e_b ?_ | with_reducible refine e_c ?_ | with_reducible refine e_l ?_ | with_reducible refine e_tup ?_ | with_reducible refine e_call ?_ | with_reducible refine e_and ?_ | with_reducible refine e_or ?_ | with_reducible refine e_not ?_ | with_reducible refine e_if ?_ | with_reducible refine e_sl ?_ | with_reducible refine o_n ?_ | with_reducible refine o_s ?_ | with_reducible refine a_nil ?_ | with_reducible refine a_cons ?_ | with_reducible refine f_lst ?_ | with_reducible refine f_call ?_ | with_reducible refine f_itA ?_ | with_reducible refine f_r1 ?_ | with_reducible refine r_seq ?_ | with_reducible refine n_add ?_ | with_reducible refine n_sub ?_ | with_reducible refine n_gt ?_ | with_reducible refine n_ge ?_ | with_reducible refine n_lt ?_ | with_reducible refine n_le ?_ | with_reducible refine e_var (by with_unfolding_all rfl) ?_ | with_reducible refine e_ixc (by with_unfolding_all rfl) ?_ | with_reducible refine e_callM (by with_unfolding_all rfl) ?_ | with_reducible refine s_frz (by with_unfolding_all rfl) ?_ | with_reducible refine s_app (by with_unfolding_all rfl) ?_ | with_reducible refine few_and (by first | decide | (simp only [List.length_cons, List.length_nil, Nat.reduceAdd, Nat.reduceLeDiff])) ?_ | refine Or.inl ⟨by first | with_reducible rfl | with_reducible exact Bool.not_false, ?_⟩ | refine Or.inr ⟨by first | with_reducible rfl | with_reducible exact Bool.not_true, ?_⟩ | refine Exists.intro _ (Exists.intro _ ⟨rfl, rfl, gd rfl ?_⟩) | refine Exists.intro _ ⟨rfl, ?_⟩)
    rfl
end K57

namespace K57
open PySem PySem.Spec PyProof.Rows L2 Dl
theorem len_cat (x y : Str) : (x ++ y).length = x.length + y.length := PySem.Str.length_append x y
/-! ### what repr writes is short -/
theorem piled_few {m : Nat} : ∀ ts : List Str, (∀ t ∈ ts, t.length ≤ m) → piled ts ≤ ts.length * (m + 2)
  | [], _ => by rw [piled_nil]; omega
  | t :: r, h => by
    have a := h t List.mem_cons_self
    have b := piled_few r fun x hx => h x (List.mem_cons_of_mem _ hx)
    rw [piled_cons, List.length_cons, Nat.add_mul]
    omega
theorem join_few (ts : List Str) : (Str.join ", " ts).length ≤ piled ts := by
  by_cases h : ts = []
  · subst h
    exact Nat.le_refl 0
  · have := join_length_add ts h
    omega
theorem from_few : ∀ (ts : List Str) (k : Nat) (acc : Str), (textFrom k acc ts).length ≤ acc.length + piled ts
  | [], k, acc => by rw [textFrom, piled_nil]; omega
  | t :: r, k, acc => by
    have a := from_few r (k + 1) (acc ++ (if k > 0 then ", " else "" : String) ++ t)
    have l : ((if k > 0 then ", " else "" : String) : Str).length ≤ 2 := by split <;> decide
    rw [len_cat, len_cat] at a
    rw [textFrom, piled_cons]
    omega
theorem tup_few (ts : List Str) : (tupleText ts).length ≤ piled ts + 4 := by
  unfold tupleText
  rw [len_cat, len_cat]
  have a := join_few ts
  have e1 : ((("(" : String) : Str)).length = 1 := rfl
  have e3 : (((if ts.length == 1 then ",)" else ")" : String) : Str)).length ≤ 2 := by split <;> decide
  omega
theorem list_few (ts : List Str) : (listText ts).length ≤ piled ts + 4 := by
  unfold listText
  rw [len_cat]
  have a := from_few ts 0 "["
  have e1 : ((("[" : String) : Str)).length = 1 := rfl
  have e2 : ((("]" : String) : Str)).length = 1 := rfl
  omega

theorem int_few {i : Int} (h : i.natAbs < 2 ^ 200) : (PyData.int i).shown.length ≤ 202 := by
  have l : i.natAbs.log2 < 200 := by
    by_cases z : i.natAbs = 0
    · rw [z]; decide
    · exact (Nat.log2_lt z).mpr h
  have a := int_text_length_le (by decide) l
  simp only [PyData.shown]
  rw [PySem.ofString_length]
  omega
theorem int_shows {i : Int} (h : i.natAbs < 2 ^ 200) : (PyData.int i).showable = true := by
  rw [PyData.showable]
  refine decide_eq_true ?_
  by_cases z : i.natAbs = 0
  · rw [z]; decide
  · exact Nat.lt_of_lt_of_le ((Nat.log2_lt z).mpr h) (by decide)
theorem repr_pair {a b : Int} (ha : a.natAbs < 2 ^ 200) (hb : b.natAbs < 2 ^ 200) : gRepr [.tuple [.int a, .int b]] = some (.str (PyData.tuple [.int a, .int b]).shown) := by
  have h1 : (PyData.tuple [.int a, .int b]).showable = true := by
    rw [PyData.showable, PyData.showableAll, int_shows ha, PyData.showableAll, int_shows hb, PyData.showableAll]
    rfl
  have h2 : realAll (.tuple [.int a, .int b]) = true := by simp [realAll, realAlls]
  have h3 : (PyData.tuple [.int a, .int b]).depth ≤ 60 := by simp [PyData.depth, PyData.depthAll]
  have h4 : (PyData.tuple [.int a, .int b]).shown.length ≤ sizeLine := by
    refine Nat.le_trans ?_ (show 1000 ≤ sizeLine by decide)
    simp only [PyData.shown]
    refine Nat.le_trans (tup_few _) ?_
    have e : PyData.shownAll [.int a, .int b] = [(PyData.int a).shown, (PyData.int b).shown] := by rw [PyData.shownAll, PyData.shownAll, PyData.shownAll]
    have p := piled_few (m := 202) (PyData.shownAll [.int a, .int b]) (fun t ht => by
      rw [e] at ht
      simp only [List.mem_cons, List.not_mem_nil, or_false] at ht
      rcases ht with rfl | rfl
      · exact int_few ha
      · exact int_few hb)
    rw [e] at p ⊢
    simp only [List.length_cons, List.length_nil] at p
    omega
  unfold gRepr
  simp only [h1, h2, Bool.true_and]
  rw [if_pos]
  rw [Bool.and_eq_true]
  exact ⟨decide_eq_true h4, decide_eq_true h3⟩
theorem ne_self (b : Bool) : gNe (.bool b) (.bool b) = some (.bool false) := by cases b <;> rfl
theorem ne_text (x : Str) : gNe (.str x) (.str x) = some (.bool false) := by
  have e : PyData.eqv (.str x) (.str x) = (x == x) := rfl
  unfold gNe
  rw [if_pos ⟨rfl, rfl⟩, e, beq_self_eq_true]
  rfl

/-! ### what the law draws -/
theorem all_nil {p : PyData → Prop} : ∀ d ∈ ([] : List PyData), p d := fun _ h => by cases h
theorem all_cons {p : PyData → Prop} {a : PyData} {l : List PyData} (h : p a) (r : ∀ d ∈ l, p d) : ∀ d ∈ a :: l, p d := fun d hd => by
  rcases List.mem_cons.mp hd with rfl | q
  · exact h
  · exact r d q
def Nm (d : PyData) : Prop := ∃ x : Int, d = .int x ∧ x.natAbs ≤ 10 ^ 18
theorem nm {x : Int} (h : x.natAbs ≤ 10 ^ 18) : Nm (.int x) := ⟨x, rfl, h⟩
theorem number_ok {n : Nat} {pd : List PyData} (h : Pot n pd) (hn : n < 100000) : Gd (m__law_number pd []) fun q => ∃ x : Int, q.1 = .int x ∧ x.natAbs ≤ 10 ^ 18 ∧ Pot (n + 10) q.2 := by
  unfold m__law_number
  refine m_fnM rfl ?_
  unfold b__law_number
  repeat (first | with_reducible refine s_seq ?_ | with_reducible refine s_if ?_ | with_reducible refine s_set ?_ | with_reducible refine s_setIx ?_ | with_reducible refine s_ret ?_ | with_reducible refine s_nil ?_ | with_reducible refine s_own ?_ | with_reducible refine s_par ?_ | with_reducible refine t_tst ?_ | with_reducible refine t_and ?_ | with_reducible refine t_or ?_ | with_reducible refine t_not ?_ | with_reducible refine t_yes ?_ | with_reducible refine e_op ?_ | with_reducible refine e_un ?_ | with_reducible refine e_chain ?_ | with_reducible refine e_b ?_ | with_reducible refine e_c ?_ | with_reducible refine e_l ?_ | with_reducible refine e_tup ?_ | with_reducible refine e_call ?_ | with_reducible refine e_and ?_ | with_reducible refine e_or ?_ | with_reducible refine e_not ?_ | with_reducible refine e_if ?_ | with_reducible refine e_sl ?_ | with_reducible refine o_n ?_ | with_reducible refine o_s ?_ | with_reducible refine a_nil ?_ | with_reducible refine a_cons ?_ | with_reducible refine f_lst ?_ | with_reducible refine f_call ?_ | with_reducible refine f_itA ?_ | with_reducible refine f_r1 ?_ | with_reducible refine r_seq ?_ | with_reducible refine n_add ?_ | with_reducible refine n_sub ?_ | with_reducible refine n_gt ?_ | with_reducible refine n_ge ?_ | with_reducible refine n_lt ?_ | with_reducible refine n_le ?_ | with_reducible refine e_var (by with_unfolding_all rfl) ?_ | with_reducible refine e_ixc (by with_unfolding_all rfl) ?_ | with_reducible refine e_callM (by with_unfolding_all rfl) ?_ | with_reducible refine s_frz (by with_unfolding_all rfl) ?_ | with_reducible refine s_app (by with_unfolding_all rfl) ?_ | with_reducible refine few_and (by first | decide | (simp only [List.length_cons, List.length_nil, Nat.reduceAdd, Nat.reduceLeDiff])) ?_ | refine Or.inl ⟨by first | with_reducible rfl | with_reducible exact Bool.not_false, ?_⟩ | refine Or.inr ⟨by first | with_reducible rfl | with_reducible exact Bool.not_true, ?_⟩ | refine Exists.intro _ (Exists.intro _ ⟨rfl, rfl, gd rfl ?_⟩) | refine Exists.intro _ ⟨rfl, ?_⟩)
  refine pot_at h (by omega) (by decide) (by decide) fun r1 p1 a1 b1 hp1 => ?_
  repeat (first | with_reducible refine s_seq ?_ | with_reducible refine s_if ?_ | with_reducible refine s_set ?_ | with_reducible refine s_setIx ?_ | with_reducible refine s_ret ?_ | with_reducible refine s_nil ?_ | with_reducible refine s_own ?_ | with_reducible refine s_par ?_ | with_reducible refine t_tst ?_ | with_reducible refine t_and ?_ | with_reducible refine t_or ?_ | with_reducible refine t_not ?_ | with_reducible refine t_yes ?_ | with_reducible refine e_op ?_ | with_reducible refine e_un ?_ | with_reducible refine e_chain ?_ | with_reducible refine e_b ?_ | with_reducible refine e_c ?_ | with_reducible refine e_l ?_ | with_reducible refine e_tup ?_ | with_reducible refine e_call ?_ | with_reducible refine e_and ?_ | with_reducible refine e_or ?_ | with_reducible refine e_not ?_ | with_reducible refine e_if ?_ | with_reducible refine e_sl ?_ | with_reducible refine o_n ?_ | with_reducible refine o_s ?_ | with_reducible refine a_nil ?_ | with_reducible refine a_cons ?_ | with_reducible refine f_lst ?_ | with_reducible refine f_call ?_ | with_reducible refine f_itA ?_ | with_reducible refine f_r1 ?_ | with_reducible refine r_seq ?_ | with_reducible refine n_add ?_ | with_reducible refine n_sub ?_ | with_reducible refine n_gt ?_ | with_reducible refine n_ge ?_ | with_reducible refine n_lt ?_ | with_reducible refine n_le ?_ | with_reducible refine e_var (by with_unfolding_all rfl) ?_ | with_reducible refine e_ixc (by with_unfolding_all rfl) ?_ | with_reducible refine e_callM (by with_unfolding_all rfl) ?_ | with_reducible refine s_frz (by with_unfolding_all rfl) ?_ | with_reducible refine s_app (by with_unfolding_all rfl) ?_ | with_reducible refine few_and (by first | decide | (simp only [List.length_cons, List.length_nil, Nat.reduceAdd, Nat.reduceLeDiff])) ?_ | refine Or.inl ⟨by first | with_reducible rfl | with_reducible exact Bool.not_false, ?_⟩ | refine Or.inr ⟨by first | with_reducible rfl | with_reducible exact Bool.not_true, ?_⟩ | refine Exists.intro _ (Exists.intro _ ⟨rfl, rfl, gd rfl ?_⟩) | refine Exists.intro _ ⟨rfl, ?_⟩)
  refine pot_at hp1 (by omega) (by decide) (by decide) fun r2 p2 a2 b2 hp2 => ?_
  repeat (first | with_reducible refine s_seq ?_ | with_reducible refine s_if ?_ | with_reducible refine s_set ?_ | with_reducible refine s_setIx ?_ | with_reducible refine s_ret ?_ | with_reducible refine s_nil ?_ | with_reducible refine s_own ?_ | with_reducible refine s_par ?_ | with_reducible refine t_tst ?_ | with_reducible refine t_and ?_ | with_reducible refine t_or ?_ | with_reducible refine t_not ?_ | with_reducible refine t_yes ?_ | with_reducible refine e_op ?_ | with_reducible refine e_un ?_ | with_reducible refine e_chain ?_ | with_reducible refine e_b ?_ | with_reducible refine e_c ?_ | with_reducible refine e_l ?_ | with_reducible refine e_tup ?_ | with_reducible refine e_call ?_ | with_reducible refine e_and ?_ | with_reducible refine e_or ?_ | with_reducible refine e_not ?_ | with_reducible refine e_if ?_ | with_reducible refine e_sl ?_ | with_reducible refine o_n ?_ | with_reducible refine o_s ?_ | with_reducible refine a_nil ?_ | with_reducible refine a_cons ?_ | with_reducible refine f_lst ?_ | with_reducible refine f_call ?_ | with_reducible refine f_itA ?_ | with_reducible refine f_r1 ?_ | with_reducible refine r_seq ?_ | with_reducible refine n_add ?_ | with_reducible refine n_sub ?_ | with_reducible refine n_gt ?_ | with_reducible refine n_ge ?_ | with_reducible refine n_lt ?_ | with_reducible refine n_le ?_ | with_reducible refine e_var (by with_unfolding_all rfl) ?_ | with_reducible refine e_ixc (by with_unfolding_all rfl) ?_ | with_reducible refine e_callM (by with_unfolding_all rfl) ?_ | with_reducible refine s_frz (by with_unfolding_all rfl) ?_ | with_reducible refine s_app (by with_unfolding_all rfl) ?_ | with_reducible refine few_and (by first | decide | (simp only [List.length_cons, List.length_nil, Nat.reduceAdd, Nat.reduceLeDiff])) ?_ | refine Or.inl ⟨by first | with_reducible rfl | with_reducible exact Bool.not_false, ?_⟩ | refine Or.inr ⟨by first | with_reducible rfl | with_reducible exact Bool.not_true, ?_⟩ | refine Exists.intro _ (Exists.intro _ ⟨rfl, rfl, gd rfl ?_⟩) | refine Exists.intro _ ⟨rfl, ?_⟩)
  refine n_pow (b := 18) 4 (by decide) (by decide) (by decide) (by decide) fun _ => ?_
  repeat (first | with_reducible refine s_seq ?_ | with_reducible refine s_if ?_ | with_reducible refine s_set ?_ | with_reducible refine s_setIx ?_ | with_reducible refine s_ret ?_ | with_reducible refine s_nil ?_ | with_reducible refine s_own ?_ | with_reducible refine s_par ?_ | with_reducible refine t_tst ?_ | with_reducible refine t_and ?_ | with_reducible refine t_or ?_ | with_reducible refine t_not ?_ | with_reducible refine t_yes ?_ | with_reducible refine e_op ?_ | with_reducible refine e_un ?_ | with_reducible refine e_chain ?_ | with_reducible refine e_b ?_ | with_reducible refine e_c ?_ | with_reducible refine e_l ?_ | with_reducible refine e_tup ?_ | with_reducible refine e_call ?_ | with_reducible refine e_and ?_ | with_reducible refine e_or ?_ | with_reducible refine e_not ?_ | with_reducible refine e_if ?_ | with_reducible refine e_sl ?_ | with_reducible refine o_n ?_ | with_reducible refine o_s ?_ | with_reducible refine a_nil ?_ | with_reducible refine a_cons ?_ | with_reducible refine f_lst ?_ | with_reducible refine f_call ?_ | with_reducible refine f_itA ?_ | with_reducible refine f_r1 ?_ | with_reducible refine r_seq ?_ | with_reducible refine n_add ?_ | with_reducible refine n_sub ?_ | with_reducible refine n_gt ?_ | with_reducible refine n_ge ?_ | with_reducible refine n_lt ?_ | with_reducible refine n_le ?_ | with_reducible refine e_var (by with_unfolding_all rfl) ?_ | with_reducible refine e_ixc (by with_unfolding_all rfl) ?_ | with_reducible refine e_callM (by with_unfolding_all rfl) ?_ | with_reducible refine s_frz (by with_unfolding_all rfl) ?_ | with_reducible refine s_app (by with_unfolding_all rfl) ?_ | with_reducible refine few_and (by first | decide | (simp only [List.length_cons, List.length_nil, Nat.reduceAdd, Nat.reduceLeDiff])) ?_ | refine Or.inl ⟨by first | with_reducible rfl | with_reducible exact Bool.not_false, ?_⟩ | refine Or.inr ⟨by first | with_reducible rfl | with_reducible exact Bool.not_true, ?_⟩ | refine Exists.intro _ (Exists.intro _ ⟨rfl, rfl, gd rfl ?_⟩) | refine Exists.intro _ ⟨rfl, ?_⟩)
  refine pot_at hp2 (by omega) (by decide) (by decide) fun r3 p3 a3 b3 hp3 => ?_
  repeat (first | with_reducible refine s_seq ?_ | with_reducible refine s_if ?_ | with_reducible refine s_set ?_ | with_reducible refine s_setIx ?_ | with_reducible refine s_ret ?_ | with_reducible refine s_nil ?_ | with_reducible refine s_own ?_ | with_reducible refine s_par ?_ | with_reducible refine t_tst ?_ | with_reducible refine t_and ?_ | with_reducible refine t_or ?_ | with_reducible refine t_not ?_ | with_reducible refine t_yes ?_ | with_reducible refine e_op ?_ | with_reducible refine e_un ?_ | with_reducible refine e_chain ?_ | with_reducible refine e_b ?_ | with_reducible refine e_c ?_ | with_reducible refine e_l ?_ | with_reducible refine e_tup ?_ | with_reducible refine e_call ?_ | with_reducible refine e_and ?_ | with_reducible refine e_or ?_ | with_reducible refine e_not ?_ | with_reducible refine e_if ?_ | with_reducible refine e_sl ?_ | with_reducible refine o_n ?_ | with_reducible refine o_s ?_ | with_reducible refine a_nil ?_ | with_reducible refine a_cons ?_ | with_reducible refine f_lst ?_ | with_reducible refine f_call ?_ | with_reducible refine f_itA ?_ | with_reducible refine f_r1 ?_ | with_reducible refine r_seq ?_ | with_reducible refine n_add ?_ | with_reducible refine n_sub ?_ | with_reducible refine n_gt ?_ | with_reducible refine n_ge ?_ | with_reducible refine n_lt ?_ | with_reducible refine n_le ?_ | with_reducible refine e_var (by with_unfolding_all rfl) ?_ | with_reducible refine e_ixc (by with_unfolding_all rfl) ?_ | with_reducible refine e_callM (by with_unfolding_all rfl) ?_ | with_reducible refine s_frz (by with_unfolding_all rfl) ?_ | with_reducible refine s_app (by with_unfolding_all rfl) ?_ | with_reducible refine few_and (by first | decide | (simp only [List.length_cons, List.length_nil, Nat.reduceAdd, Nat.reduceLeDiff])) ?_ | refine Or.inl ⟨by first | with_reducible rfl | with_reducible exact Bool.not_false, ?_⟩ | refine Or.inr ⟨by first | with_reducible rfl | with_reducible exact Bool.not_true, ?_⟩ | refine Exists.intro _ (Exists.intro _ ⟨rfl, rfl, gd rfl ?_⟩) | refine Exists.intro _ ⟨rfl, ?_⟩)
  refine n_pow (b := 18) 4 (by decide) (by decide) (by decide) (by decide) fun _ => ?_
  repeat (first | with_reducible refine s_seq ?_ | with_reducible refine s_if ?_ | with_reducible refine s_set ?_ | with_reducible refine s_setIx ?_ | with_reducible refine s_ret ?_ | with_reducible refine s_nil ?_ | with_reducible refine s_own ?_ | with_reducible refine s_par ?_ | with_reducible refine t_tst ?_ | with_reducible refine t_and ?_ | with_reducible refine t_or ?_ | with_reducible refine t_not ?_ | with_reducible refine t_yes ?_ | with_reducible refine e_op ?_ | with_reducible refine e_un ?_ | with_reducible refine e_chain ?_ | with_reducible refine e_b ?_ | with_reducible refine e_c ?_ | with_reducible refine e_l ?_ | with_reducible refine e_tup ?_ | with_reducible refine e_call ?_ | with_reducible refine e_and ?_ | with_reducible refine e_or ?_ | with_reducible refine e_not ?_ | with_reducible refine e_if ?_ | with_reducible refine e_sl ?_ | with_reducible refine o_n ?_ | with_reducible refine o_s ?_ | with_reducible refine a_nil ?_ | with_reducible refine a_cons ?_ | with_reducible refine f_lst ?_ | with_reducible refine f_call ?_ | with_reducible refine f_itA ?_ | with_reducible refine f_r1 ?_ | with_reducible refine r_seq ?_ | with_reducible refine n_add ?_ | with_reducible refine n_sub ?_ | with_reducible refine n_gt ?_ | with_reducible refine n_ge ?_ | with_reducible refine n_lt ?_ | with_reducible refine n_le ?_ | with_reducible refine e_var (by with_unfolding_all rfl) ?_ | with_reducible refine e_ixc (by with_unfolding_all rfl) ?_ | with_reducible refine e_callM (by with_unfolding_all rfl) ?_ | with_reducible refine s_frz (by with_unfolding_all rfl) ?_ | with_reducible refine s_app (by with_unfolding_all rfl) ?_ | with_reducible refine few_and (by first | decide | (simp only [List.length_cons, List.length_nil, Nat.reduceAdd, Nat.reduceLeDiff])) ?_ | refine Or.inl ⟨by first | with_reducible rfl | with_reducible exact Bool.not_false, ?_⟩ | refine Or.inr ⟨by first | with_reducible rfl | with_reducible exact Bool.not_true, ?_⟩ | refine Exists.intro _ (Exists.intro _ ⟨rfl, rfl, gd rfl ?_⟩) | refine Exists.intro _ ⟨rfl, ?_⟩)
  refine pot_at hp3 (by omega) (by decide) (by decide) fun r4 p4 a4 b4 hp4 => ?_
  repeat (first | with_reducible refine s_seq ?_ | with_reducible refine s_if ?_ | with_reducible refine s_set ?_ | with_reducible refine s_setIx ?_ | with_reducible refine s_ret ?_ | with_reducible refine s_nil ?_ | with_reducible refine s_own ?_ | with_reducible refine s_par ?_ | with_reducible refine t_tst ?_ | with_reducible refine t_and ?_ | with_reducible refine t_or ?_ | with_reducible refine t_not ?_ | with_reducible refine t_yes ?_ | with_reducible refine e_op ?_ | with_reducible refine e_un ?_ | with_reducible refine e_chain ?_ | with_reducible refine e_b ?_ | with_reducible refine e_c ?_ | with_reducible refine e_l ?_ | with_reducible refine e_tup ?_ | with_reducible refine e_call ?_ | with_reducible refine e_and ?_ | with_reducible refine e_or ?_ | with_reducible refine e_not ?_ | with_reducible refine e_if ?_ | with_reducible refine e_sl ?_ | with_reducible refine o_n ?_ | with_reducible refine o_s ?_ | with_reducible refine a_nil ?_ | with_reducible refine a_cons ?_ | with_reducible refine f_lst ?_ | with_reducible refine f_call ?_ | with_reducible refine f_itA ?_ | with_reducible refine f_r1 ?_ | with_reducible refine r_seq ?_ | with_reducible refine n_add ?_ | with_reducible refine n_sub ?_ | with_reducible refine n_gt ?_ | with_reducible refine n_ge ?_ | with_reducible refine n_lt ?_ | with_reducible refine n_le ?_ | with_reducible refine e_var (by with_unfolding_all rfl) ?_ | with_reducible refine e_ixc (by with_unfolding_all rfl) ?_ | with_reducible refine e_callM (by with_unfolding_all rfl) ?_ | with_reducible refine s_frz (by with_unfolding_all rfl) ?_ | with_reducible refine s_app (by with_unfolding_all rfl) ?_ | with_reducible refine few_and (by first | decide | (simp only [List.length_cons, List.length_nil, Nat.reduceAdd, Nat.reduceLeDiff])) ?_ | refine Or.inl ⟨by first | with_reducible rfl | with_reducible exact Bool.not_false, ?_⟩ | refine Or.inr ⟨by first | with_reducible rfl | with_reducible exact Bool.not_true, ?_⟩ | refine Exists.intro _ (Exists.intro _ ⟨rfl, rfl, gd rfl ?_⟩) | refine Exists.intro _ ⟨rfl, ?_⟩)
  refine pot_at hp4 (by omega) (by decide) (by decide) fun r5 p5 a5 b5 hp5 => ?_
  have hx : ∀ d ∈ [PyData.int (r1 - 6), .int (r2 - 1000), .int r3, .int (0 - r4)], Nm d := all_cons (nm (by omega)) (all_cons (nm (by omega)) (all_cons (nm (by omega)) (all_cons (nm (by omega)) all_nil)))
  refine ix_list _ a5 (by exact b5) fun d hd => ?_
  obtain ⟨x, rfl, lx⟩ := hx d hd
  exact ⟨p5, rfl, x, rfl, lx, hp5.mono (by omega)⟩
theorem th_int {a b : Int} (h : b.natAbs < 2 ^ 200) : Th (.tuple [.int a, .int b]) := ⟨rfl, rfl, fun i e => by cases e; exact h⟩
theorem th_pair {a b : PyData} (ha : (tyD a).isSome = true) (hb : (tyD b).isSome = true) (h : ∀ i, b = .int i → i.natAbs < 2 ^ 200) : Th (.tuple [a, b]) := ⟨ha, hb, h⟩
theorem eq_int1 (x : Int) : gEq (.int x) (.int 1) = some (.bool (PyData.eqv (.int x) (.int 1))) := rfl
theorem odd_ok {n : Nat} {pd : List PyData} (h : Pot n pd) (hn : n < 100000) {p q : Int} (hp : p.natAbs ≤ 10 ^ 18) (hq : q.natAbs ≤ 10 ^ 18) : Gd (m__law_odd pd [.tuple [.int p, .int q]]) fun r => Th r.1 ∧ Pot (n + 10) r.2 := by
  unfold m__law_odd
  refine m_fnM rfl ?_
  unfold b__law_odd
  refine s_seq ?_
  refine s_asg ?_
  repeat (first | with_reducible refine s_seq ?_ | with_reducible refine s_if ?_ | with_reducible refine s_set ?_ | with_reducible refine s_setIx ?_ | with_reducible refine s_ret ?_ | with_reducible refine s_nil ?_ | with_reducible refine s_own ?_ | with_reducible refine s_par ?_ | with_reducible refine t_tst ?_ | with_reducible refine t_and ?_ | with_reducible refine t_or ?_ | with_reducible refine t_not ?_ | with_reducible refine t_yes ?_ | with_reducible refine e_op ?_ | with_reducible refine e_un ?_ | with_reducible refine e_chain ?_ | with_reducible refine e_b ?_ | with_reducible refine e_c ?_ | with_reducible refine e_l ?_ | with_reducible refine e_tup ?_ | with_reducible refine e_call ?_ | with_reducible refine e_and ?_ | with_reducible refine e_or ?_ | with_reducible refine e_not ?_ | with_reducible refine e_if ?_ | with_reducible refine e_sl ?_ | with_reducible refine o_n ?_ | with_reducible refine o_s ?_ | with_reducible refine a_nil ?_ | with_reducible refine a_cons ?_ | with_reducible refine f_lst ?_ | with_reducible refine f_call ?_ | with_reducible refine f_itA ?_ | with_reducible refine f_r1 ?_ | with_reducible refine r_seq ?_ | with_reducible refine n_add ?_ | with_reducible refine n_sub ?_ | with_reducible refine n_gt ?_ | with_reducible refine n_ge ?_ | with_reducible refine n_lt ?_ | with_reducible refine n_le ?_ | with_reducible refine e_var (by with_unfolding_all rfl) ?_ | with_reducible refine e_ixc (by with_unfolding_all rfl) ?_ | with_reducible refine e_callM (by with_unfolding_all rfl) ?_ | with_reducible refine s_frz (by with_unfolding_all rfl) ?_ | with_reducible refine s_app (by with_unfolding_all rfl) ?_ | with_reducible refine few_and (by first | decide | (simp only [List.length_cons, List.length_nil, Nat.reduceAdd, Nat.reduceLeDiff])) ?_ | refine Or.inl ⟨by first | with_reducible rfl | with_reducible exact Bool.not_false, ?_⟩ | refine Or.inr ⟨by first | with_reducible rfl | with_reducible exact Bool.not_true, ?_⟩ | refine Exists.intro _ (Exists.intro _ ⟨rfl, rfl, gd rfl ?_⟩) | refine Exists.intro _ ⟨rfl, ?_⟩)
  refine gd rfl ?_
  repeat (first | with_reducible refine s_seq ?_ | with_reducible refine s_if ?_ | with_reducible refine s_set ?_ | with_reducible refine s_setIx ?_ | with_reducible refine s_ret ?_ | with_reducible refine s_nil ?_ | with_reducible refine s_own ?_ | with_reducible refine s_par ?_ | with_reducible refine t_tst ?_ | with_reducible refine t_and ?_ | with_reducible refine t_or ?_ | with_reducible refine t_not ?_ | with_reducible refine t_yes ?_ | with_reducible refine e_op ?_ | with_reducible refine e_un ?_ | with_reducible refine e_chain ?_ | with_reducible refine e_b ?_ | with_reducible refine e_c ?_ | with_reducible refine e_l ?_ | with_reducible refine e_tup ?_ | with_reducible refine e_call ?_ | with_reducible refine e_and ?_ | with_reducible refine e_or ?_ | with_reducible refine e_not ?_ | with_reducible refine e_if ?_ | with_reducible refine e_sl ?_ | with_reducible refine o_n ?_ | with_reducible refine o_s ?_ | with_reducible refine a_nil ?_ | with_reducible refine a_cons ?_ | with_reducible refine f_lst ?_ | with_reducible refine f_call ?_ | with_reducible refine f_itA ?_ | with_reducible refine f_r1 ?_ | with_reducible refine r_seq ?_ | with_reducible refine n_add ?_ | with_reducible refine n_sub ?_ | with_reducible refine n_gt ?_ | with_reducible refine n_ge ?_ | with_reducible refine n_lt ?_ | with_reducible refine n_le ?_ | with_reducible refine e_var (by with_unfolding_all rfl) ?_ | with_reducible refine e_ixc (by with_unfolding_all rfl) ?_ | with_reducible refine e_callM (by with_unfolding_all rfl) ?_ | with_reducible refine s_frz (by with_unfolding_all rfl) ?_ | with_reducible refine s_app (by with_unfolding_all rfl) ?_ | with_reducible refine few_and (by first | decide | (simp only [List.length_cons, List.length_nil, Nat.reduceAdd, Nat.reduceLeDiff])) ?_ | refine Or.inl ⟨by first | with_reducible rfl | with_reducible exact Bool.not_false, ?_⟩ | refine Or.inr ⟨by first | with_reducible rfl | with_reducible exact Bool.not_true, ?_⟩ | refine Exists.intro _ (Exists.intro _ ⟨rfl, rfl, gd rfl ?_⟩) | refine Exists.intro _ ⟨rfl, ?_⟩)
  refine n_pow (b := 9) 4 (by decide) (by decide) (by decide) (by decide) fun _ => ?_
  repeat (first | with_reducible refine s_seq ?_ | with_reducible refine s_if ?_ | with_reducible refine s_set ?_ | with_reducible refine s_setIx ?_ | with_reducible refine s_ret ?_ | with_reducible refine s_nil ?_ | with_reducible refine s_own ?_ | with_reducible refine s_par ?_ | with_reducible refine t_tst ?_ | with_reducible refine t_and ?_ | with_reducible refine t_or ?_ | with_reducible refine t_not ?_ | with_reducible refine t_yes ?_ | with_reducible refine e_op ?_ | with_reducible refine e_un ?_ | with_reducible refine e_chain ?_ | with_reducible refine e_b ?_ | with_reducible refine e_c ?_ | with_reducible refine e_l ?_ | with_reducible refine e_tup ?_ | with_reducible refine e_call ?_ | with_reducible refine e_and ?_ | with_reducible refine e_or ?_ | with_reducible refine e_not ?_ | with_reducible refine e_if ?_ | with_reducible refine e_sl ?_ | with_reducible refine o_n ?_ | with_reducible refine o_s ?_ | with_reducible refine a_nil ?_ | with_reducible refine a_cons ?_ | with_reducible refine f_lst ?_ | with_reducible refine f_call ?_ | with_reducible refine f_itA ?_ | with_reducible refine f_r1 ?_ | with_reducible refine r_seq ?_ | with_reducible refine n_add ?_ | with_reducible refine n_sub ?_ | with_reducible refine n_gt ?_ | with_reducible refine n_ge ?_ | with_reducible refine n_lt ?_ | with_reducible refine n_le ?_ | with_reducible refine e_var (by with_unfolding_all rfl) ?_ | with_reducible refine e_ixc (by with_unfolding_all rfl) ?_ | with_reducible refine e_callM (by with_unfolding_all rfl) ?_ | with_reducible refine s_frz (by with_unfolding_all rfl) ?_ | with_reducible refine s_app (by with_unfolding_all rfl) ?_ | with_reducible refine few_and (by first | decide | (simp only [List.length_cons, List.length_nil, Nat.reduceAdd, Nat.reduceLeDiff])) ?_ | refine Or.inl ⟨by first | with_reducible rfl | with_reducible exact Bool.not_false, ?_⟩ | refine Or.inr ⟨by first | with_reducible rfl | with_reducible exact Bool.not_true, ?_⟩ | refine Exists.intro _ (Exists.intro _ ⟨rfl, rfl, gd rfl ?_⟩) | refine Exists.intro _ ⟨rfl, ?_⟩)
  refine pot_at h (by omega) (by decide) (by decide) fun r1 p1 a1 b1 hp1 => ?_
  have hb : ∀ d ∈ [PyData.int 2, .int 3, .int 5, .int 7, .int 101, .int (10 ^ 9 + 7)], ∃ x : Int, d = .int x ∧ 0 < x ∧ x < 2 ^ 31 := all_cons ⟨_, rfl, by decide, by decide⟩ (all_cons ⟨_, rfl, by decide, by decide⟩ (all_cons ⟨_, rfl, by decide, by decide⟩ (all_cons ⟨_, rfl, by decide, by decide⟩ (all_cons ⟨_, rfl, by decide, by decide⟩ (all_cons ⟨_, rfl, by decide, by decide⟩ all_nil)))))
  refine ix_list _ a1 (by exact b1) fun d hd => ?_
  obtain ⟨by_, rfl, by0, by1⟩ := hb d hd
  have mq : (by_ * q).natAbs < 2 ^ 200 := by
    rw [Int.natAbs_mul]
    have : by_.natAbs * q.natAbs ≤ 2 ^ 31 * 10 ^ 18 := Nat.mul_le_mul (by omega) hq
    exact Nat.lt_of_le_of_lt this (by decide)
  repeat (first | with_reducible refine s_seq ?_ | with_reducible refine s_if ?_ | with_reducible refine s_set ?_ | with_reducible refine s_setIx ?_ | with_reducible refine s_ret ?_ | with_reducible refine s_nil ?_ | with_reducible refine s_own ?_ | with_reducible refine s_par ?_ | with_reducible refine t_tst ?_ | with_reducible refine t_and ?_ | with_reducible refine t_or ?_ | with_reducible refine t_not ?_ | with_reducible refine t_yes ?_ | with_reducible refine e_op ?_ | with_reducible refine e_un ?_ | with_reducible refine e_chain ?_ | with_reducible refine e_b ?_ | with_reducible refine e_c ?_ | with_reducible refine e_l ?_ | with_reducible refine e_tup ?_ | with_reducible refine e_call ?_ | with_reducible refine e_and ?_ | with_reducible refine e_or ?_ | with_reducible refine e_not ?_ | with_reducible refine e_if ?_ | with_reducible refine e_sl ?_ | with_reducible refine o_n ?_ | with_reducible refine o_s ?_ | with_reducible refine a_nil ?_ | with_reducible refine a_cons ?_ | with_reducible refine f_lst ?_ | with_reducible refine f_call ?_ | with_reducible refine f_itA ?_ | with_reducible refine f_r1 ?_ | with_reducible refine r_seq ?_ | with_reducible refine n_add ?_ | with_reducible refine n_sub ?_ | with_reducible refine n_gt ?_ | with_reducible refine n_ge ?_ | with_reducible refine n_lt ?_ | with_reducible refine n_le ?_ | with_reducible refine e_var (by with_unfolding_all rfl) ?_ | with_reducible refine e_ixc (by with_unfolding_all rfl) ?_ | with_reducible refine e_callM (by with_unfolding_all rfl) ?_ | with_reducible refine s_frz (by with_unfolding_all rfl) ?_ | with_reducible refine s_app (by with_unfolding_all rfl) ?_ | with_reducible refine few_and (by first | decide | (simp only [List.length_cons, List.length_nil, Nat.reduceAdd, Nat.reduceLeDiff])) ?_ | refine Or.inl ⟨by first | with_reducible rfl | with_reducible exact Bool.not_false, ?_⟩ | refine Or.inr ⟨by first | with_reducible rfl | with_reducible exact Bool.not_true, ?_⟩ | refine Exists.intro _ (Exists.intro _ ⟨rfl, rfl, gd rfl ?_⟩) | refine Exists.intro _ ⟨rfl, ?_⟩)
  refine n_mul 100 (by omega) (by omega) (by omega) (by omega) (by decide) (by decide) ?_
  repeat (first | with_reducible refine s_seq ?_ | with_reducible refine s_if ?_ | with_reducible refine s_set ?_ | with_reducible refine s_setIx ?_ | with_reducible refine s_ret ?_ | with_reducible refine s_nil ?_ | with_reducible refine s_own ?_ | with_reducible refine s_par ?_ | with_reducible refine t_tst ?_ | with_reducible refine t_and ?_ | with_reducible refine t_or ?_ | with_reducible refine t_not ?_ | with_reducible refine t_yes ?_ | with_reducible refine e_op ?_ | with_reducible refine e_un ?_ | with_reducible refine e_chain ?_ | with_reducible refine e_b ?_ | with_reducible refine e_c ?_ | with_reducible refine e_l ?_ | with_reducible refine e_tup ?_ | with_reducible refine e_call ?_ | with_reducible refine e_and ?_ | with_reducible refine e_or ?_ | with_reducible refine e_not ?_ | with_reducible refine e_if ?_ | with_reducible refine e_sl ?_ | with_reducible refine o_n ?_ | with_reducible refine o_s ?_ | with_reducible refine a_nil ?_ | with_reducible refine a_cons ?_ | with_reducible refine f_lst ?_ | with_reducible refine f_call ?_ | with_reducible refine f_itA ?_ | with_reducible refine f_r1 ?_ | with_reducible refine r_seq ?_ | with_reducible refine n_add ?_ | with_reducible refine n_sub ?_ | with_reducible refine n_gt ?_ | with_reducible refine n_ge ?_ | with_reducible refine n_lt ?_ | with_reducible refine n_le ?_ | with_reducible refine e_var (by with_unfolding_all rfl) ?_ | with_reducible refine e_ixc (by with_unfolding_all rfl) ?_ | with_reducible refine e_callM (by with_unfolding_all rfl) ?_ | with_reducible refine s_frz (by with_unfolding_all rfl) ?_ | with_reducible refine s_app (by with_unfolding_all rfl) ?_ | with_reducible refine few_and (by first | decide | (simp only [List.length_cons, List.length_nil, Nat.reduceAdd, Nat.reduceLeDiff])) ?_ | refine Or.inl ⟨by first | with_reducible rfl | with_reducible exact Bool.not_false, ?_⟩ | refine Or.inr ⟨by first | with_reducible rfl | with_reducible exact Bool.not_true, ?_⟩ | refine Exists.intro _ (Exists.intro _ ⟨rfl, rfl, gd rfl ?_⟩) | refine Exists.intro _ ⟨rfl, ?_⟩)
  refine n_mul 100 (by omega) (by omega) (by omega) (by omega) (by decide) (by decide) ?_
  repeat (first | with_reducible refine s_seq ?_ | with_reducible refine s_if ?_ | with_reducible refine s_set ?_ | with_reducible refine s_setIx ?_ | with_reducible refine s_ret ?_ | with_reducible refine s_nil ?_ | with_reducible refine s_own ?_ | with_reducible refine s_par ?_ | with_reducible refine t_tst ?_ | with_reducible refine t_and ?_ | with_reducible refine t_or ?_ | with_reducible refine t_not ?_ | with_reducible refine t_yes ?_ | with_reducible refine e_op ?_ | with_reducible refine e_un ?_ | with_reducible refine e_chain ?_ | with_reducible refine e_b ?_ | with_reducible refine e_c ?_ | with_reducible refine e_l ?_ | with_reducible refine e_tup ?_ | with_reducible refine e_call ?_ | with_reducible refine e_and ?_ | with_reducible refine e_or ?_ | with_reducible refine e_not ?_ | with_reducible refine e_if ?_ | with_reducible refine e_sl ?_ | with_reducible refine o_n ?_ | with_reducible refine o_s ?_ | with_reducible refine a_nil ?_ | with_reducible refine a_cons ?_ | with_reducible refine f_lst ?_ | with_reducible refine f_call ?_ | with_reducible refine f_itA ?_ | with_reducible refine f_r1 ?_ | with_reducible refine r_seq ?_ | with_reducible refine n_add ?_ | with_reducible refine n_sub ?_ | with_reducible refine n_gt ?_ | with_reducible refine n_ge ?_ | with_reducible refine n_lt ?_ | with_reducible refine n_le ?_ | with_reducible refine e_var (by with_unfolding_all rfl) ?_ | with_reducible refine e_ixc (by with_unfolding_all rfl) ?_ | with_reducible refine e_callM (by with_unfolding_all rfl) ?_ | with_reducible refine s_frz (by with_unfolding_all rfl) ?_ | with_reducible refine s_app (by with_unfolding_all rfl) ?_ | with_reducible refine few_and (by first | decide | (simp only [List.length_cons, List.length_nil, Nat.reduceAdd, Nat.reduceLeDiff])) ?_ | refine Or.inl ⟨by first | with_reducible rfl | with_reducible exact Bool.not_false, ?_⟩ | refine Or.inr ⟨by first | with_reducible rfl | with_reducible exact Bool.not_true, ?_⟩ | refine Exists.intro _ (Exists.intro _ ⟨rfl, rfl, gd rfl ?_⟩) | refine Exists.intro _ ⟨rfl, ?_⟩)
  generalize hL : [PyData.tuple [.int (by_ * p), .int (by_ * q)], .tuple [.int p, .int (0 - q)], .tuple [.int p, .int 0], .tuple [.int (0 - p), .int q], .tuple [.int q, .int p], .tuple [.int (p + q), .int q], .tuple [.int p, .int q, .int 1], .tuple [.int p], .list [.int p, .int q], .none, .int p] = L
  have fL : ∀ d ∈ L, Th d := by
    rw [← hL]
    exact all_cons (th_int mq) (all_cons (th_int (by omega)) (all_cons (th_int (by omega)) (all_cons (th_int (by omega)) (all_cons (th_int (by omega)) (all_cons (th_int (by omega)) (all_cons True.intro (all_cons True.intro (all_cons rfl (all_cons rfl (all_cons rfl all_nil))))))))))
  have lL : L.length = 11 := by rw [← hL]; rfl
  clear hL
  repeat (first | with_reducible refine s_seq ?_ | with_reducible refine s_if ?_ | with_reducible refine s_set ?_ | with_reducible refine s_setIx ?_ | with_reducible refine s_ret ?_ | with_reducible refine s_nil ?_ | with_reducible refine s_own ?_ | with_reducible refine s_par ?_ | with_reducible refine t_tst ?_ | with_reducible refine t_and ?_ | with_reducible refine t_or ?_ | with_reducible refine t_not ?_ | with_reducible refine t_yes ?_ | with_reducible refine e_op ?_ | with_reducible refine e_un ?_ | with_reducible refine e_chain ?_ | with_reducible refine e_b ?_ | with_reducible refine e_c ?_ | with_reducible refine e_l ?_ | with_reducible refine e_tup ?_ | with_reducible refine e_call ?_ | with_reducible refine e_and ?_ | with_reducible refine e_or ?_ | with_reducible refine e_not ?_ | with_reducible refine e_if ?_ | with_reducible refine e_sl ?_ | with_reducible refine o_n ?_ | with_reducible refine o_s ?_ | with_reducible refine a_nil ?_ | with_reducible refine a_cons ?_ | with_reducible refine f_lst ?_ | with_reducible refine f_call ?_ | with_reducible refine f_itA ?_ | with_reducible refine f_r1 ?_ | with_reducible refine r_seq ?_ | with_reducible refine n_add ?_ | with_reducible refine n_sub ?_ | with_reducible refine n_gt ?_ | with_reducible refine n_ge ?_ | with_reducible refine n_lt ?_ | with_reducible refine n_le ?_ | with_reducible refine e_var (by with_unfolding_all rfl) ?_ | with_reducible refine e_ixc (by with_unfolding_all rfl) ?_ | with_reducible refine e_callM (by with_unfolding_all rfl) ?_ | with_reducible refine s_frz (by with_unfolding_all rfl) ?_ | with_reducible refine s_app (by with_unfolding_all rfl) ?_ | with_reducible refine few_and (by first | decide | (simp only [List.length_cons, List.length_nil, Nat.reduceAdd, Nat.reduceLeDiff])) ?_ | refine Or.inl ⟨by first | with_reducible rfl | with_reducible exact Bool.not_false, ?_⟩ | refine Or.inr ⟨by first | with_reducible rfl | with_reducible exact Bool.not_true, ?_⟩ | refine Exists.intro _ (Exists.intro _ ⟨rfl, rfl, gd rfl ?_⟩) | refine Exists.intro _ ⟨rfl, ?_⟩)
  refine gd (eq_int1 _) ?_
  repeat (first | with_reducible refine s_seq ?_ | with_reducible refine s_if ?_ | with_reducible refine s_set ?_ | with_reducible refine s_setIx ?_ | with_reducible refine s_ret ?_ | with_reducible refine s_nil ?_ | with_reducible refine s_own ?_ | with_reducible refine s_par ?_ | with_reducible refine t_tst ?_ | with_reducible refine t_and ?_ | with_reducible refine t_or ?_ | with_reducible refine t_not ?_ | with_reducible refine t_yes ?_ | with_reducible refine e_op ?_ | with_reducible refine e_un ?_ | with_reducible refine e_chain ?_ | with_reducible refine e_b ?_ | with_reducible refine e_c ?_ | with_reducible refine e_l ?_ | with_reducible refine e_tup ?_ | with_reducible refine e_call ?_ | with_reducible refine e_and ?_ | with_reducible refine e_or ?_ | with_reducible refine e_not ?_ | with_reducible refine e_if ?_ | with_reducible refine e_sl ?_ | with_reducible refine o_n ?_ | with_reducible refine o_s ?_ | with_reducible refine a_nil ?_ | with_reducible refine a_cons ?_ | with_reducible refine f_lst ?_ | with_reducible refine f_call ?_ | with_reducible refine f_itA ?_ | with_reducible refine f_r1 ?_ | with_reducible refine r_seq ?_ | with_reducible refine n_add ?_ | with_reducible refine n_sub ?_ | with_reducible refine n_gt ?_ | with_reducible refine n_ge ?_ | with_reducible refine n_lt ?_ | with_reducible refine n_le ?_ | with_reducible refine e_var (by with_unfolding_all rfl) ?_ | with_reducible refine e_ixc (by with_unfolding_all rfl) ?_ | with_reducible refine e_callM (by with_unfolding_all rfl) ?_ | with_reducible refine s_frz (by with_unfolding_all rfl) ?_ | with_reducible refine s_app (by with_unfolding_all rfl) ?_ | with_reducible refine few_and (by first | decide | (simp only [List.length_cons, List.length_nil, Nat.reduceAdd, Nat.reduceLeDiff])) ?_ | refine Or.inl ⟨by first | with_reducible rfl | with_reducible exact Bool.not_false, ?_⟩ | refine Or.inr ⟨by first | with_reducible rfl | with_reducible exact Bool.not_true, ?_⟩ | refine Exists.intro _ (Exists.intro _ ⟨rfl, rfl, gd rfl ?_⟩) | refine Exists.intro _ ⟨rfl, ?_⟩)
  refine gd (eq_int1 _) ?_
  repeat (first | with_reducible refine s_seq ?_ | with_reducible refine s_if ?_ | with_reducible refine s_set ?_ | with_reducible refine s_setIx ?_ | with_reducible refine s_ret ?_ | with_reducible refine s_nil ?_ | with_reducible refine s_own ?_ | with_reducible refine s_par ?_ | with_reducible refine t_tst ?_ | with_reducible refine t_and ?_ | with_reducible refine t_or ?_ | with_reducible refine t_not ?_ | with_reducible refine t_yes ?_ | with_reducible refine e_op ?_ | with_reducible refine e_un ?_ | with_reducible refine e_chain ?_ | with_reducible refine e_b ?_ | with_reducible refine e_c ?_ | with_reducible refine e_l ?_ | with_reducible refine e_tup ?_ | with_reducible refine e_call ?_ | with_reducible refine e_and ?_ | with_reducible refine e_or ?_ | with_reducible refine e_not ?_ | with_reducible refine e_if ?_ | with_reducible refine e_sl ?_ | with_reducible refine o_n ?_ | with_reducible refine o_s ?_ | with_reducible refine a_nil ?_ | with_reducible refine a_cons ?_ | with_reducible refine f_lst ?_ | with_reducible refine f_call ?_ | with_reducible refine f_itA ?_ | with_reducible refine f_r1 ?_ | with_reducible refine r_seq ?_ | with_reducible refine n_add ?_ | with_reducible refine n_sub ?_ | with_reducible refine n_gt ?_ | with_reducible refine n_ge ?_ | with_reducible refine n_lt ?_ | with_reducible refine n_le ?_ | with_reducible refine e_var (by with_unfolding_all rfl) ?_ | with_reducible refine e_ixc (by with_unfolding_all rfl) ?_ | with_reducible refine e_callM (by with_unfolding_all rfl) ?_ | with_reducible refine s_frz (by with_unfolding_all rfl) ?_ | with_reducible refine s_app (by with_unfolding_all rfl) ?_ | with_reducible refine few_and (by first | decide | (simp only [List.length_cons, List.length_nil, Nat.reduceAdd, Nat.reduceLeDiff])) ?_ | refine Or.inl ⟨by first | with_reducible rfl | with_reducible exact Bool.not_false, ?_⟩ | refine Or.inr ⟨by first | with_reducible rfl | with_reducible exact Bool.not_true, ?_⟩ | refine Exists.intro _ (Exists.intro _ ⟨rfl, rfl, gd rfl ?_⟩) | refine Exists.intro _ ⟨rfl, ?_⟩)
  generalize hM : [PyData.tuple [.bool (PyData.eqv (.int p) (.int 1)), .int q], .tuple [.int p, .bool (PyData.eqv (.int q) (.int 1))], .tuple [.int p, .none], .tuple [.str "1", .int q], .tuple [.int p, .tuple [.int q]], .tuple [], .dict [], .str "1/2", .tuple [.int 0, .int by_], .tuple [.int 0, .int 1], .bool true] = M
  have fM : ∀ d ∈ M, Th d := by
    rw [← hM]
    exact all_cons (th_pair rfl rfl (fun i e => by cases e; omega)) (all_cons (th_pair rfl rfl (fun i e => by cases e)) (all_cons (th_pair rfl rfl (fun i e => by cases e)) (all_cons (th_pair rfl rfl (fun i e => by cases e; omega)) (all_cons (th_pair rfl rfl (fun i e => by cases e)) (all_cons True.intro (all_cons rfl (all_cons rfl (all_cons (th_int (by omega)) (all_cons (th_int (by decide)) (all_cons rfl all_nil))))))))))
  have lM : M.length = 11 := by rw [← hM]; rfl
  clear hM
  refine cat_list (by omega) ?_
  repeat (first | with_reducible refine s_seq ?_ | with_reducible refine s_if ?_ | with_reducible refine s_set ?_ | with_reducible refine s_setIx ?_ | with_reducible refine s_ret ?_ | with_reducible refine s_nil ?_ | with_reducible refine s_own ?_ | with_reducible refine s_par ?_ | with_reducible refine t_tst ?_ | with_reducible refine t_and ?_ | with_reducible refine t_or ?_ | with_reducible refine t_not ?_ | with_reducible refine t_yes ?_ | with_reducible refine e_op ?_ | with_reducible refine e_un ?_ | with_reducible refine e_chain ?_ | with_reducible refine e_b ?_ | with_reducible refine e_c ?_ | with_reducible refine e_l ?_ | with_reducible refine e_tup ?_ | with_reducible refine e_call ?_ | with_reducible refine e_and ?_ | with_reducible refine e_or ?_ | with_reducible refine e_not ?_ | with_reducible refine e_if ?_ | with_reducible refine e_sl ?_ | with_reducible refine o_n ?_ | with_reducible refine o_s ?_ | with_reducible refine a_nil ?_ | with_reducible refine a_cons ?_ | with_reducible refine f_lst ?_ | with_reducible refine f_call ?_ | with_reducible refine f_itA ?_ | with_reducible refine f_r1 ?_ | with_reducible refine r_seq ?_ | with_reducible refine n_add ?_ | with_reducible refine n_sub ?_ | with_reducible refine n_gt ?_ | with_reducible refine n_ge ?_ | with_reducible refine n_lt ?_ | with_reducible refine n_le ?_ | with_reducible refine e_var (by with_unfolding_all rfl) ?_ | with_reducible refine e_ixc (by with_unfolding_all rfl) ?_ | with_reducible refine e_callM (by with_unfolding_all rfl) ?_ | with_reducible refine s_frz (by with_unfolding_all rfl) ?_ | with_reducible refine s_app (by with_unfolding_all rfl) ?_ | with_reducible refine few_and (by first | decide | (simp only [List.length_cons, List.length_nil, Nat.reduceAdd, Nat.reduceLeDiff])) ?_ | refine Or.inl ⟨by first | with_reducible rfl | with_reducible exact Bool.not_false, ?_⟩ | refine Or.inr ⟨by first | with_reducible rfl | with_reducible exact Bool.not_true, ?_⟩ | refine Exists.intro _ (Exists.intro _ ⟨rfl, rfl, gd rfl ?_⟩) | refine Exists.intro _ ⟨rfl, ?_⟩)
  refine pot_at hp1 (by omega) (by decide) (by decide) fun r2 p2 a2 b2 hp2 => ?_
  refine ix_list _ a2 (by rw [List.length_append, lL, lM]; exact b2) fun d hd => ?_
  exact ⟨p2, rfl, (List.mem_append.mp hd).elim (fL d) (fM d), hp2.mono (by omega)⟩
def script (ns : List Int) : PyData := .dict [(.none, .list (ns.map .int))]
theorem law_ok (ns : List Int) (h : ns.length ≤ 63) : Gd (m_law [script ns]) fun r => r = .bool true := by
  unfold m_law
  refine m_fnP rfl ?_
  unfold b_law
  refine s_seq ?_
  refine s_for (I := fun r s => (∀ d ∈ r, ∃ k : Nat, d = .int (k : Int) ∧ k < 100) ∧ ∃ v1 v2 v3 v4 v5 v6 v7 v8 v9 : SV, notOwn (some v3) = true ∧ s = [.dat (script ns), v1, v2, v3, v4, v5, v6, v7, v8, v9]) ?_ (fun d r s hI => ?_) (fun s hI => ?_)
  · repeat (first | with_reducible refine s_seq ?_ | with_reducible refine s_if ?_ | with_reducible refine s_set ?_ | with_reducible refine s_setIx ?_ | with_reducible refine s_ret ?_ | with_reducible refine s_nil ?_ | with_reducible refine s_own ?_ | with_reducible refine s_par ?_ | with_reducible refine t_tst ?_ | with_reducible refine t_and ?_ | with_reducible refine t_or ?_ | with_reducible refine t_not ?_ | with_reducible refine t_yes ?_ | with_reducible refine e_op ?_ | with_reducible refine e_un ?_ | with_reducible refine e_chain ?_ | with_reducible refine e_b ?_ | with_reducible refine e_c ?_ | with_reducible refine e_l ?_ | with_reducible refine e_tup ?_ | with_reducible refine e_call ?_ | with_reducible refine e_and ?_ | with_reducible refine e_or ?_ | with_reducible refine e_not ?_ | with_reducible refine e_if ?_ | with_reducible refine e_sl ?_ | with_reducible refine o_n ?_ | with_reducible refine o_s ?_ | with_reducible refine a_nil ?_ | with_reducible refine a_cons ?_ | with_reducible refine f_lst ?_ | with_reducible refine f_call ?_ | with_reducible refine f_itA ?_ | with_reducible refine f_r1 ?_ | with_reducible refine r_seq ?_ | with_reducible refine n_add ?_ | with_reducible refine n_sub ?_ | with_reducible refine n_gt ?_ | with_reducible refine n_ge ?_ | with_reducible refine n_lt ?_ | with_reducible refine n_le ?_ | with_reducible refine e_var (by with_unfolding_all rfl) ?_ | with_reducible refine e_ixc (by with_unfolding_all rfl) ?_ | with_reducible refine e_callM (by with_unfolding_all rfl) ?_ | with_reducible refine s_frz (by with_unfolding_all rfl) ?_ | with_reducible refine s_app (by with_unfolding_all rfl) ?_ | with_reducible refine few_and (by first | decide | (simp only [List.length_cons, List.length_nil, Nat.reduceAdd, Nat.reduceLeDiff])) ?_ | refine Or.inl ⟨by first | with_reducible rfl | with_reducible exact Bool.not_false, ?_⟩ | refine Or.inr ⟨by first | with_reducible rfl | with_reducible exact Bool.not_true, ?_⟩ | refine Exists.intro _ (Exists.intro _ ⟨rfl, rfl, gd rfl ?_⟩) | refine Exists.intro _ ⟨rfl, ?_⟩)
    refine gd (a := .int ((ns.map PyData.int).length : Nat)) rfl ?_
    repeat (first | with_reducible refine s_seq ?_ | with_reducible refine s_if ?_ | with_reducible refine s_set ?_ | with_reducible refine s_setIx ?_ | with_reducible refine s_ret ?_ | with_reducible refine s_nil ?_ | with_reducible refine s_own ?_ | with_reducible refine s_par ?_ | with_reducible refine t_tst ?_ | with_reducible refine t_and ?_ | with_reducible refine t_or ?_ | with_reducible refine t_not ?_ | with_reducible refine t_yes ?_ | with_reducible refine e_op ?_ | with_reducible refine e_un ?_ | with_reducible refine e_chain ?_ | with_reducible refine e_b ?_ | with_reducible refine e_c ?_ | with_reducible refine e_l ?_ | with_reducible refine e_tup ?_ | with_reducible refine e_call ?_ | with_reducible refine e_and ?_ | with_reducible refine e_or ?_ | with_reducible refine e_not ?_ | with_reducible refine e_if ?_ | with_reducible refine e_sl ?_ | with_reducible refine o_n ?_ | with_reducible refine o_s ?_ | with_reducible refine a_nil ?_ | with_reducible refine a_cons ?_ | with_reducible refine f_lst ?_ | with_reducible refine f_call ?_ | with_reducible refine f_itA ?_ | with_reducible refine f_r1 ?_ | with_reducible refine r_seq ?_ | with_reducible refine n_add ?_ | with_reducible refine n_sub ?_ | with_reducible refine n_gt ?_ | with_reducible refine n_ge ?_ | with_reducible refine n_lt ?_ | with_reducible refine n_le ?_ | with_reducible refine e_var (by with_unfolding_all rfl) ?_ | with_reducible refine e_ixc (by with_unfolding_all rfl) ?_ | with_reducible refine e_callM (by with_unfolding_all rfl) ?_ | with_reducible refine s_frz (by with_unfolding_all rfl) ?_ | with_reducible refine s_app (by with_unfolding_all rfl) ?_ | with_reducible refine few_and (by first | decide | (simp only [List.length_cons, List.length_nil, Nat.reduceAdd, Nat.reduceLeDiff])) ?_ | refine Or.inl ⟨by first | with_reducible rfl | with_reducible exact Bool.not_false, ?_⟩ | refine Or.inr ⟨by first | with_reducible rfl | with_reducible exact Bool.not_true, ?_⟩ | refine Exists.intro _ (Exists.intro _ ⟨rfl, rfl, gd rfl ?_⟩) | refine Exists.intro _ ⟨rfl, ?_⟩)
    refine gd (a := .int (if ((ns.map PyData.int).length : Int) < 20 then ((ns.map PyData.int).length : Int) else 20)) rfl ?_
    repeat (first | with_reducible refine s_seq ?_ | with_reducible refine s_if ?_ | with_reducible refine s_set ?_ | with_reducible refine s_setIx ?_ | with_reducible refine s_ret ?_ | with_reducible refine s_nil ?_ | with_reducible refine s_own ?_ | with_reducible refine s_par ?_ | with_reducible refine t_tst ?_ | with_reducible refine t_and ?_ | with_reducible refine t_or ?_ | with_reducible refine t_not ?_ | with_reducible refine t_yes ?_ | with_reducible refine e_op ?_ | with_reducible refine e_un ?_ | with_reducible refine e_chain ?_ | with_reducible refine e_b ?_ | with_reducible refine e_c ?_ | with_reducible refine e_l ?_ | with_reducible refine e_tup ?_ | with_reducible refine e_call ?_ | with_reducible refine e_and ?_ | with_reducible refine e_or ?_ | with_reducible refine e_not ?_ | with_reducible refine e_if ?_ | with_reducible refine e_sl ?_ | with_reducible refine o_n ?_ | with_reducible refine o_s ?_ | with_reducible refine a_nil ?_ | with_reducible refine a_cons ?_ | with_reducible refine f_lst ?_ | with_reducible refine f_call ?_ | with_reducible refine f_itA ?_ | with_reducible refine f_r1 ?_ | with_reducible refine r_seq ?_ | with_reducible refine n_add ?_ | with_reducible refine n_sub ?_ | with_reducible refine n_gt ?_ | with_reducible refine n_ge ?_ | with_reducible refine n_lt ?_ | with_reducible refine n_le ?_ | with_reducible refine e_var (by with_unfolding_all rfl) ?_ | with_reducible refine e_ixc (by with_unfolding_all rfl) ?_ | with_reducible refine e_callM (by with_unfolding_all rfl) ?_ | with_reducible refine s_frz (by with_unfolding_all rfl) ?_ | with_reducible refine s_app (by with_unfolding_all rfl) ?_ | with_reducible refine few_and (by first | decide | (simp only [List.length_cons, List.length_nil, Nat.reduceAdd, Nat.reduceLeDiff])) ?_ | refine Or.inl ⟨by first | with_reducible rfl | with_reducible exact Bool.not_false, ?_⟩ | refine Or.inr ⟨by first | with_reducible rfl | with_reducible exact Bool.not_true, ?_⟩ | refine Exists.intro _ (Exists.intro _ ⟨rfl, rfl, gd rfl ?_⟩) | refine Exists.intro _ ⟨rfl, ?_⟩)
    refine gd (a := .int (if (if ((ns.map PyData.int).length : Int) < 20 then ((ns.map PyData.int).length : Int) else 20) > 1 then (if ((ns.map PyData.int).length : Int) < 20 then ((ns.map PyData.int).length : Int) else 20) else 1)) rfl ?_
    repeat (first | with_reducible refine s_seq ?_ | with_reducible refine s_if ?_ | with_reducible refine s_set ?_ | with_reducible refine s_setIx ?_ | with_reducible refine s_ret ?_ | with_reducible refine s_nil ?_ | with_reducible refine s_own ?_ | with_reducible refine s_par ?_ | with_reducible refine t_tst ?_ | with_reducible refine t_and ?_ | with_reducible refine t_or ?_ | with_reducible refine t_not ?_ | with_reducible refine t_yes ?_ | with_reducible refine e_op ?_ | with_reducible refine e_un ?_ | with_reducible refine e_chain ?_ | with_reducible refine e_b ?_ | with_reducible refine e_c ?_ | with_reducible refine e_l ?_ | with_reducible refine e_tup ?_ | with_reducible refine e_call ?_ | with_reducible refine e_and ?_ | with_reducible refine e_or ?_ | with_reducible refine e_not ?_ | with_reducible refine e_if ?_ | with_reducible refine e_sl ?_ | with_reducible refine o_n ?_ | with_reducible refine o_s ?_ | with_reducible refine a_nil ?_ | with_reducible refine a_cons ?_ | with_reducible refine f_lst ?_ | with_reducible refine f_call ?_ | with_reducible refine f_itA ?_ | with_reducible refine f_r1 ?_ | with_reducible refine r_seq ?_ | with_reducible refine n_add ?_ | with_reducible refine n_sub ?_ | with_reducible refine n_gt ?_ | with_reducible refine n_ge ?_ | with_reducible refine n_lt ?_ | with_reducible refine n_le ?_ | with_reducible refine e_var (by with_unfolding_all rfl) ?_ | with_reducible refine e_ixc (by with_unfolding_all rfl) ?_ | with_reducible refine e_callM (by with_unfolding_all rfl) ?_ | with_reducible refine s_frz (by with_unfolding_all rfl) ?_ | with_reducible refine s_app (by with_unfolding_all rfl) ?_ | with_reducible refine few_and (by first | decide | (simp only [List.length_cons, List.length_nil, Nat.reduceAdd, Nat.reduceLeDiff])) ?_ | refine Or.inl ⟨by first | with_reducible rfl | with_reducible exact Bool.not_false, ?_⟩ | refine Or.inr ⟨by first | with_reducible rfl | with_reducible exact Bool.not_true, ?_⟩ | refine Exists.intro _ (Exists.intro _ ⟨rfl, rfl, gd rfl ?_⟩) | refine Exists.intro _ ⟨rfl, ?_⟩)
    generalize hm : (if (if ((ns.map PyData.int).length : Int) < 20 then ((ns.map PyData.int).length : Int) else 20) > 1 then (if ((ns.map PyData.int).length : Int) < 20 then ((ns.map PyData.int).length : Int) else 20) else 1) = m
    have m0 : 0 ≤ m ∧ m ≤ 20 := by
      rw [← hm]
      split <;> split <;> omega
    refine ⟨m0.1, by omega, fun d hd => ?_, _, _, _, _, _, _, _, _, _, rfl, rfl⟩
    unfold Dl.rng at hd
    obtain ⟨k, hk, rfl⟩ := List.mem_map.mp hd
    have hk' := List.mem_range.mp hk
    exact ⟨k, by rw [Int.zero_add], by omega⟩
  · obtain ⟨hr, v1, v2, v3, v4, v5, v6, v7, v8, v9, _, rfl⟩ := hI
    obtain ⟨k, rfl, hk⟩ := hr d List.mem_cons_self
    have hr' : ∀ d ∈ r, ∃ k : Nat, d = .int (k : Int) ∧ k < 100 := fun e he => hr e (List.mem_cons_of_mem _ he)
    refine ⟨_, rfl, ?_⟩
    repeat (first | with_reducible refine s_seq ?_ | with_reducible refine s_if ?_ | with_reducible refine s_set ?_ | with_reducible refine s_setIx ?_ | with_reducible refine s_ret ?_ | with_reducible refine s_nil ?_ | with_reducible refine s_own ?_ | with_reducible refine s_par ?_ | with_reducible refine t_tst ?_ | with_reducible refine t_and ?_ | with_reducible refine t_or ?_ | with_reducible refine t_not ?_ | with_reducible refine t_yes ?_ | with_reducible refine e_op ?_ | with_reducible refine e_un ?_ | with_reducible refine e_chain ?_ | with_reducible refine e_b ?_ | with_reducible refine e_c ?_ | with_reducible refine e_l ?_ | with_reducible refine e_tup ?_ | with_reducible refine e_call ?_ | with_reducible refine e_and ?_ | with_reducible refine e_or ?_ | with_reducible refine e_not ?_ | with_reducible refine e_if ?_ | with_reducible refine e_sl ?_ | with_reducible refine o_n ?_ | with_reducible refine o_s ?_ | with_reducible refine a_nil ?_ | with_reducible refine a_cons ?_ | with_reducible refine f_lst ?_ | with_reducible refine f_call ?_ | with_reducible refine f_itA ?_ | with_reducible refine f_r1 ?_ | with_reducible refine r_seq ?_ | with_reducible refine n_add ?_ | with_reducible refine n_sub ?_ | with_reducible refine n_gt ?_ | with_reducible refine n_ge ?_ | with_reducible refine n_lt ?_ | with_reducible refine n_le ?_ | with_reducible refine e_var (by with_unfolding_all rfl) ?_ | with_reducible refine e_ixc (by with_unfolding_all rfl) ?_ | with_reducible refine e_callM (by with_unfolding_all rfl) ?_ | with_reducible refine s_frz (by with_unfolding_all rfl) ?_ | with_reducible refine s_app (by with_unfolding_all rfl) ?_ | with_reducible refine few_and (by first | decide | (simp only [List.length_cons, List.length_nil, Nat.reduceAdd, Nat.reduceLeDiff])) ?_ | refine Or.inl ⟨by first | with_reducible rfl | with_reducible exact Bool.not_false, ?_⟩ | refine Or.inr ⟨by first | with_reducible rfl | with_reducible exact Bool.not_true, ?_⟩ | refine Exists.intro _ (Exists.intro _ ⟨rfl, rfl, gd rfl ?_⟩) | refine Exists.intro _ ⟨rfl, ?_⟩)
    refine gd_mono (pot_ok (ns := ns) hk) fun pd hpd => ?_
    refine ⟨by show 2 < 10; decide, ?_⟩
    refine s_for (I := fun r s => (∀ d ∈ r, ∃ k : Nat, d = .int (k : Int) ∧ k < 6) ∧ ∃ (v3 v4 v5 v6 v7 v8 v9 : SV) (p : List PyData), s = [.dat (script ns), .dat (.int (k : Nat)), .own p, v3, v4, v5, v6, v7, v8, v9] ∧ notOwn (some v3) = true ∧ Pot (100 * (6 - r.length)) p ∧ r.length ≤ 6) ?_ (fun d r s hI => ?_) (fun s hI => ?_)
    · repeat (first | with_reducible refine s_seq ?_ | with_reducible refine s_if ?_ | with_reducible refine s_set ?_ | with_reducible refine s_setIx ?_ | with_reducible refine s_ret ?_ | with_reducible refine s_nil ?_ | with_reducible refine s_own ?_ | with_reducible refine s_par ?_ | with_reducible refine t_tst ?_ | with_reducible refine t_and ?_ | with_reducible refine t_or ?_ | with_reducible refine t_not ?_ | with_reducible refine t_yes ?_ | with_reducible refine e_op ?_ | with_reducible refine e_un ?_ | with_reducible refine e_chain ?_ | with_reducible refine e_b ?_ | with_reducible refine e_c ?_ | with_reducible refine e_l ?_ | with_reducible refine e_tup ?_ | with_reducible refine e_call ?_ | with_reducible refine e_and ?_ | with_reducible refine e_or ?_ | with_reducible refine e_not ?_ | with_reducible refine e_if ?_ | with_reducible refine e_sl ?_ | with_reducible refine o_n ?_ | with_reducible refine o_s ?_ | with_reducible refine a_nil ?_ | with_reducible refine a_cons ?_ | with_reducible refine f_lst ?_ | with_reducible refine f_call ?_ | with_reducible refine f_itA ?_ | with_reducible refine f_r1 ?_ | with_reducible refine r_seq ?_ | with_reducible refine n_add ?_ | with_reducible refine n_sub ?_ | with_reducible refine n_gt ?_ | with_reducible refine n_ge ?_ | with_reducible refine n_lt ?_ | with_reducible refine n_le ?_ | with_reducible refine e_var (by with_unfolding_all rfl) ?_ | with_reducible refine e_ixc (by with_unfolding_all rfl) ?_ | with_reducible refine e_callM (by with_unfolding_all rfl) ?_ | with_reducible refine s_frz (by with_unfolding_all rfl) ?_ | with_reducible refine s_app (by with_unfolding_all rfl) ?_ | with_reducible refine few_and (by first | decide | (simp only [List.length_cons, List.length_nil, Nat.reduceAdd, Nat.reduceLeDiff])) ?_ | refine Or.inl ⟨by first | with_reducible rfl | with_reducible exact Bool.not_false, ?_⟩ | refine Or.inr ⟨by first | with_reducible rfl | with_reducible exact Bool.not_true, ?_⟩ | refine Exists.intro _ (Exists.intro _ ⟨rfl, rfl, gd rfl ?_⟩) | refine Exists.intro _ ⟨rfl, ?_⟩)
      refine ⟨by decide, by decide, fun d hd => ?_, _, _, _, _, _, _, _, pd, rfl, ?_, ?_, ?_⟩
      · unfold Dl.rng at hd
        obtain ⟨k, hk, rfl⟩ := List.mem_map.mp hd
        have hk' := List.mem_range.mp hk
        exact ⟨k, by rw [Int.zero_add], by omega⟩
      · assumption
      · exact hpd.mono (by omega)
      · decide
    · obtain ⟨hr2, u3, u4, u5, u6, u7, u8, u9, p0, rfl, _, hp0, few⟩ := hI
      obtain ⟨k2, rfl, hk2⟩ := hr2 d List.mem_cons_self
      have hr2' : ∀ d ∈ r, ∃ k : Nat, d = .int (k : Int) ∧ k < 6 := fun e he => hr2 e (List.mem_cons_of_mem _ he)
      rw [List.length_cons] at hp0 few
      refine ⟨_, rfl, ?_⟩
      repeat (first | with_reducible refine s_seq ?_ | with_reducible refine s_if ?_ | with_reducible refine s_set ?_ | with_reducible refine s_setIx ?_ | with_reducible refine s_ret ?_ | with_reducible refine s_nil ?_ | with_reducible refine s_own ?_ | with_reducible refine s_par ?_ | with_reducible refine t_tst ?_ | with_reducible refine t_and ?_ | with_reducible refine t_or ?_ | with_reducible refine t_not ?_ | with_reducible refine t_yes ?_ | with_reducible refine e_op ?_ | with_reducible refine e_un ?_ | with_reducible refine e_chain ?_ | with_reducible refine e_b ?_ | with_reducible refine e_c ?_ | with_reducible refine e_l ?_ | with_reducible refine e_tup ?_ | with_reducible refine e_call ?_ | with_reducible refine e_and ?_ | with_reducible refine e_or ?_ | with_reducible refine e_not ?_ | with_reducible refine e_if ?_ | with_reducible refine e_sl ?_ | with_reducible refine o_n ?_ | with_reducible refine o_s ?_ | with_reducible refine a_nil ?_ | with_reducible refine a_cons ?_ | with_reducible refine f_lst ?_ | with_reducible refine f_call ?_ | with_reducible refine f_itA ?_ | with_reducible refine f_r1 ?_ | with_reducible refine r_seq ?_ | with_reducible refine n_add ?_ | with_reducible refine n_sub ?_ | with_reducible refine n_gt ?_ | with_reducible refine n_ge ?_ | with_reducible refine n_lt ?_ | with_reducible refine n_le ?_ | with_reducible refine e_var (by with_unfolding_all rfl) ?_ | with_reducible refine e_ixc (by with_unfolding_all rfl) ?_ | with_reducible refine e_callM (by with_unfolding_all rfl) ?_ | with_reducible refine s_frz (by with_unfolding_all rfl) ?_ | with_reducible refine s_app (by with_unfolding_all rfl) ?_ | with_reducible refine few_and (by first | decide | (simp only [List.length_cons, List.length_nil, Nat.reduceAdd, Nat.reduceLeDiff])) ?_ | refine Or.inl ⟨by first | with_reducible rfl | with_reducible exact Bool.not_false, ?_⟩ | refine Or.inr ⟨by first | with_reducible rfl | with_reducible exact Bool.not_true, ?_⟩ | refine Exists.intro _ (Exists.intro _ ⟨rfl, rfl, gd rfl ?_⟩) | refine Exists.intro _ ⟨rfl, ?_⟩)
      refine gd_mono (number_ok hp0 (by omega)) fun q hq => ?_
      obtain ⟨d1, p1⟩ := q
      obtain ⟨x, e, lx, hp1⟩ := hq
      have e' : d1 = .int x := e
      subst e'
      have hp1' : Pot _ p1 := hp1
      repeat (first | with_reducible refine s_seq ?_ | with_reducible refine s_if ?_ | with_reducible refine s_set ?_ | with_reducible refine s_setIx ?_ | with_reducible refine s_ret ?_ | with_reducible refine s_nil ?_ | with_reducible refine s_own ?_ | with_reducible refine s_par ?_ | with_reducible refine t_tst ?_ | with_reducible refine t_and ?_ | with_reducible refine t_or ?_ | with_reducible refine t_not ?_ | with_reducible refine t_yes ?_ | with_reducible refine e_op ?_ | with_reducible refine e_un ?_ | with_reducible refine e_chain ?_ | with_reducible refine e_b ?_ | with_reducible refine e_c ?_ | with_reducible refine e_l ?_ | with_reducible refine e_tup ?_ | with_reducible refine e_call ?_ | with_reducible refine e_and ?_ | with_reducible refine e_or ?_ | with_reducible refine e_not ?_ | with_reducible refine e_if ?_ | with_reducible refine e_sl ?_ | with_reducible refine o_n ?_ | with_reducible refine o_s ?_ | with_reducible refine a_nil ?_ | with_reducible refine a_cons ?_ | with_reducible refine f_lst ?_ | with_reducible refine f_call ?_ | with_reducible refine f_itA ?_ | with_reducible refine f_r1 ?_ | with_reducible refine r_seq ?_ | with_reducible refine n_add ?_ | with_reducible refine n_sub ?_ | with_reducible refine n_gt ?_ | with_reducible refine n_ge ?_ | with_reducible refine n_lt ?_ | with_reducible refine n_le ?_ | with_reducible refine e_var (by with_unfolding_all rfl) ?_ | with_reducible refine e_ixc (by with_unfolding_all rfl) ?_ | with_reducible refine e_callM (by with_unfolding_all rfl) ?_ | with_reducible refine s_frz (by with_unfolding_all rfl) ?_ | with_reducible refine s_app (by with_unfolding_all rfl) ?_ | with_reducible refine few_and (by first | decide | (simp only [List.length_cons, List.length_nil, Nat.reduceAdd, Nat.reduceLeDiff])) ?_ | refine Or.inl ⟨by first | with_reducible rfl | with_reducible exact Bool.not_false, ?_⟩ | refine Or.inr ⟨by first | with_reducible rfl | with_reducible exact Bool.not_true, ?_⟩ | refine Exists.intro _ (Exists.intro _ ⟨rfl, rfl, gd rfl ?_⟩) | refine Exists.intro _ ⟨rfl, ?_⟩)
      refine gd_mono (number_ok hp1' (by omega)) fun q hq => ?_
      obtain ⟨d2, p2⟩ := q
      obtain ⟨y, e, ly, hp2⟩ := hq
      have e' : d2 = .int y := e
      subst e'
      have hp2' : Pot _ p2 := hp2
      refine s_seq ?_
      refine gs_mono (N := fun s => ∃ (q : Int) (p3 : List PyData), q ≠ 0 ∧ q.natAbs ≤ 10 ^ 18 ∧ Pot (100 * (6 - (r.length + 1)) + 30) p3 ∧ s = [.dat (script ns), .dat (.int (k : Nat)), .own p3, .dat (.int (k2 : Nat)), .dat (.int x), .dat (.int q), u6, u7, u8, u9]) (R := fun _ _ => False) ?_ (fun s hs => ?_) (fun _ _ z => z.elim)
      · repeat (first | with_reducible refine s_seq ?_ | with_reducible refine s_if ?_ | with_reducible refine s_set ?_ | with_reducible refine s_setIx ?_ | with_reducible refine s_ret ?_ | with_reducible refine s_nil ?_ | with_reducible refine s_own ?_ | with_reducible refine s_par ?_ | with_reducible refine t_tst ?_ | with_reducible refine t_and ?_ | with_reducible refine t_or ?_ | with_reducible refine t_not ?_ | with_reducible refine t_yes ?_ | with_reducible refine e_op ?_ | with_reducible refine e_un ?_ | with_reducible refine e_chain ?_ | with_reducible refine e_b ?_ | with_reducible refine e_c ?_ | with_reducible refine e_l ?_ | with_reducible refine e_tup ?_ | with_reducible refine e_call ?_ | with_reducible refine e_and ?_ | with_reducible refine e_or ?_ | with_reducible refine e_not ?_ | with_reducible refine e_if ?_ | with_reducible refine e_sl ?_ | with_reducible refine o_n ?_ | with_reducible refine o_s ?_ | with_reducible refine a_nil ?_ | with_reducible refine a_cons ?_ | with_reducible refine f_lst ?_ | with_reducible refine f_call ?_ | with_reducible refine f_itA ?_ | with_reducible refine f_r1 ?_ | with_reducible refine r_seq ?_ | with_reducible refine n_add ?_ | with_reducible refine n_sub ?_ | with_reducible refine n_gt ?_ | with_reducible refine n_ge ?_ | with_reducible refine n_lt ?_ | with_reducible refine n_le ?_ | with_reducible refine e_var (by with_unfolding_all rfl) ?_ | with_reducible refine e_ixc (by with_unfolding_all rfl) ?_ | with_reducible refine e_callM (by with_unfolding_all rfl) ?_ | with_reducible refine s_frz (by with_unfolding_all rfl) ?_ | with_reducible refine s_app (by with_unfolding_all rfl) ?_ | with_reducible refine few_and (by first | decide | (simp only [List.length_cons, List.length_nil, Nat.reduceAdd, Nat.reduceLeDiff])) ?_ | refine Or.inl ⟨by first | with_reducible rfl | with_reducible exact Bool.not_false, ?_⟩ | refine Or.inr ⟨by first | with_reducible rfl | with_reducible exact Bool.not_true, ?_⟩ | refine Exists.intro _ (Exists.intro _ ⟨rfl, rfl, gd rfl ?_⟩) | refine Exists.intro _ ⟨rfl, ?_⟩)
        refine gd (a := .bool (decide (y = 0))) rfl ?_
        repeat (first | with_reducible refine s_seq ?_ | with_reducible refine s_if ?_ | with_reducible refine s_set ?_ | with_reducible refine s_setIx ?_ | with_reducible refine s_ret ?_ | with_reducible refine s_nil ?_ | with_reducible refine s_own ?_ | with_reducible refine s_par ?_ | with_reducible refine t_tst ?_ | with_reducible refine t_and ?_ | with_reducible refine t_or ?_ | with_reducible refine t_not ?_ | with_reducible refine t_yes ?_ | with_reducible refine e_op ?_ | with_reducible refine e_un ?_ | with_reducible refine e_chain ?_ | with_reducible refine e_b ?_ | with_reducible refine e_c ?_ | with_reducible refine e_l ?_ | with_reducible refine e_tup ?_ | with_reducible refine e_call ?_ | with_reducible refine e_and ?_ | with_reducible refine e_or ?_ | with_reducible refine e_not ?_ | with_reducible refine e_if ?_ | with_reducible refine e_sl ?_ | with_reducible refine o_n ?_ | with_reducible refine o_s ?_ | with_reducible refine a_nil ?_ | with_reducible refine a_cons ?_ | with_reducible refine f_lst ?_ | with_reducible refine f_call ?_ | with_reducible refine f_itA ?_ | with_reducible refine f_r1 ?_ | with_reducible refine r_seq ?_ | with_reducible refine n_add ?_ | with_reducible refine n_sub ?_ | with_reducible refine n_gt ?_ | with_reducible refine n_ge ?_ | with_reducible refine n_lt ?_ | with_reducible refine n_le ?_ | with_reducible refine e_var (by with_unfolding_all rfl) ?_ | with_reducible refine e_ixc (by with_unfolding_all rfl) ?_ | with_reducible refine e_callM (by with_unfolding_all rfl) ?_ | with_reducible refine s_frz (by with_unfolding_all rfl) ?_ | with_reducible refine s_app (by with_unfolding_all rfl) ?_ | with_reducible refine few_and (by first | decide | (simp only [List.length_cons, List.length_nil, Nat.reduceAdd, Nat.reduceLeDiff])) ?_ | refine Or.inl ⟨by first | with_reducible rfl | with_reducible exact Bool.not_false, ?_⟩ | refine Or.inr ⟨by first | with_reducible rfl | with_reducible exact Bool.not_true, ?_⟩ | refine Exists.intro _ (Exists.intro _ ⟨rfl, rfl, gd rfl ?_⟩) | refine Exists.intro _ ⟨rfl, ?_⟩)
        by_cases y0 : y = 0
        · refine .inl ⟨decide_eq_true y0, ?_⟩
          repeat (first | with_reducible refine s_seq ?_ | with_reducible refine s_if ?_ | with_reducible refine s_set ?_ | with_reducible refine s_setIx ?_ | with_reducible refine s_ret ?_ | with_reducible refine s_nil ?_ | with_reducible refine s_own ?_ | with_reducible refine s_par ?_ | with_reducible refine t_tst ?_ | with_reducible refine t_and ?_ | with_reducible refine t_or ?_ | with_reducible refine t_not ?_ | with_reducible refine t_yes ?_ | with_reducible refine e_op ?_ | with_reducible refine e_un ?_ | with_reducible refine e_chain ?_ | with_reducible refine e_b ?_ | with_reducible refine e_c ?_ | with_reducible refine e_l ?_ | with_reducible refine e_tup ?_ | with_reducible refine e_call ?_ | with_reducible refine e_and ?_ | with_reducible refine e_or ?_ | with_reducible refine e_not ?_ | with_reducible refine e_if ?_ | with_reducible refine e_sl ?_ | with_reducible refine o_n ?_ | with_reducible refine o_s ?_ | with_reducible refine a_nil ?_ | with_reducible refine a_cons ?_ | with_reducible refine f_lst ?_ | with_reducible refine f_call ?_ | with_reducible refine f_itA ?_ | with_reducible refine f_r1 ?_ | with_reducible refine r_seq ?_ | with_reducible refine n_add ?_ | with_reducible refine n_sub ?_ | with_reducible refine n_gt ?_ | with_reducible refine n_ge ?_ | with_reducible refine n_lt ?_ | with_reducible refine n_le ?_ | with_reducible refine e_var (by with_unfolding_all rfl) ?_ | with_reducible refine e_ixc (by with_unfolding_all rfl) ?_ | with_reducible refine e_callM (by with_unfolding_all rfl) ?_ | with_reducible refine s_frz (by with_unfolding_all rfl) ?_ | with_reducible refine s_app (by with_unfolding_all rfl) ?_ | with_reducible refine few_and (by first | decide | (simp only [List.length_cons, List.length_nil, Nat.reduceAdd, Nat.reduceLeDiff])) ?_ | refine Or.inl ⟨by first | with_reducible rfl | with_reducible exact Bool.not_false, ?_⟩ | refine Or.inr ⟨by first | with_reducible rfl | with_reducible exact Bool.not_true, ?_⟩ | refine Exists.intro _ (Exists.intro _ ⟨rfl, rfl, gd rfl ?_⟩) | refine Exists.intro _ ⟨rfl, ?_⟩)
          refine pot_at hp2' (by omega) (by decide) (by decide) fun r1 p3 a3 b3 hp3 => ?_
          repeat (first | with_reducible refine s_seq ?_ | with_reducible refine s_if ?_ | with_reducible refine s_set ?_ | with_reducible refine s_setIx ?_ | with_reducible refine s_ret ?_ | with_reducible refine s_nil ?_ | with_reducible refine s_own ?_ | with_reducible refine s_par ?_ | with_reducible refine t_tst ?_ | with_reducible refine t_and ?_ | with_reducible refine t_or ?_ | with_reducible refine t_not ?_ | with_reducible refine t_yes ?_ | with_reducible refine e_op ?_ | with_reducible refine e_un ?_ | with_reducible refine e_chain ?_ | with_reducible refine e_b ?_ | with_reducible refine e_c ?_ | with_reducible refine e_l ?_ | with_reducible refine e_tup ?_ | with_reducible refine e_call ?_ | with_reducible refine e_and ?_ | with_reducible refine e_or ?_ | with_reducible refine e_not ?_ | with_reducible refine e_if ?_ | with_reducible refine e_sl ?_ | with_reducible refine o_n ?_ | with_reducible refine o_s ?_ | with_reducible refine a_nil ?_ | with_reducible refine a_cons ?_ | with_reducible refine f_lst ?_ | with_reducible refine f_call ?_ | with_reducible refine f_itA ?_ | with_reducible refine f_r1 ?_ | with_reducible refine r_seq ?_ | with_reducible refine n_add ?_ | with_reducible refine n_sub ?_ | with_reducible refine n_gt ?_ | with_reducible refine n_ge ?_ | with_reducible refine n_lt ?_ | with_reducible refine n_le ?_ | with_reducible refine e_var (by with_unfolding_all rfl) ?_ | with_reducible refine e_ixc (by with_unfolding_all rfl) ?_ | with_reducible refine e_callM (by with_unfolding_all rfl) ?_ | with_reducible refine s_frz (by with_unfolding_all rfl) ?_ | with_reducible refine s_app (by with_unfolding_all rfl) ?_ | with_reducible refine few_and (by first | decide | (simp only [List.length_cons, List.length_nil, Nat.reduceAdd, Nat.reduceLeDiff])) ?_ | refine Or.inl ⟨by first | with_reducible rfl | with_reducible exact Bool.not_false, ?_⟩ | refine Or.inr ⟨by first | with_reducible rfl | with_reducible exact Bool.not_true, ?_⟩ | refine Exists.intro _ (Exists.intro _ ⟨rfl, rfl, gd rfl ?_⟩) | refine Exists.intro _ ⟨rfl, ?_⟩)
          exact ⟨1 + r1, p3, by omega, by omega, hp3.mono (by omega), rfl⟩
        · refine .inr ⟨decide_eq_false y0, ?_⟩
          repeat (first | with_reducible refine s_seq ?_ | with_reducible refine s_if ?_ | with_reducible refine s_set ?_ | with_reducible refine s_setIx ?_ | with_reducible refine s_ret ?_ | with_reducible refine s_nil ?_ | with_reducible refine s_own ?_ | with_reducible refine s_par ?_ | with_reducible refine t_tst ?_ | with_reducible refine t_and ?_ | with_reducible refine t_or ?_ | with_reducible refine t_not ?_ | with_reducible refine t_yes ?_ | with_reducible refine e_op ?_ | with_reducible refine e_un ?_ | with_reducible refine e_chain ?_ | with_reducible refine e_b ?_ | with_reducible refine e_c ?_ | with_reducible refine e_l ?_ | with_reducible refine e_tup ?_ | with_reducible refine e_call ?_ | with_reducible refine e_and ?_ | with_reducible refine e_or ?_ | with_reducible refine e_not ?_ | with_reducible refine e_if ?_ | with_reducible refine e_sl ?_ | with_reducible refine o_n ?_ | with_reducible refine o_s ?_ | with_reducible refine a_nil ?_ | with_reducible refine a_cons ?_ | with_reducible refine f_lst ?_ | with_reducible refine f_call ?_ | with_reducible refine f_itA ?_ | with_reducible refine f_r1 ?_ | with_reducible refine r_seq ?_ | with_reducible refine n_add ?_ | with_reducible refine n_sub ?_ | with_reducible refine n_gt ?_ | with_reducible refine n_ge ?_ | with_reducible refine n_lt ?_ | with_reducible refine n_le ?_ | with_reducible refine e_var (by with_unfolding_all rfl) ?_ | with_reducible refine e_ixc (by with_unfolding_all rfl) ?_ | with_reducible refine e_callM (by with_unfolding_all rfl) ?_ | with_reducible refine s_frz (by with_unfolding_all rfl) ?_ | with_reducible refine s_app (by with_unfolding_all rfl) ?_ | with_reducible refine few_and (by first | decide | (simp only [List.length_cons, List.length_nil, Nat.reduceAdd, Nat.reduceLeDiff])) ?_ | refine Or.inl ⟨by first | with_reducible rfl | with_reducible exact Bool.not_false, ?_⟩ | refine Or.inr ⟨by first | with_reducible rfl | with_reducible exact Bool.not_true, ?_⟩ | refine Exists.intro _ (Exists.intro _ ⟨rfl, rfl, gd rfl ?_⟩) | refine Exists.intro _ ⟨rfl, ?_⟩)
          exact ⟨y, p2, y0, ly, hp2'.mono (by omega), rfl⟩
      obtain ⟨q, p3, q0, lq, hp3, rfl⟩ := hs
      repeat (first | with_reducible refine s_seq ?_ | with_reducible refine s_if ?_ | with_reducible refine s_set ?_ | with_reducible refine s_setIx ?_ | with_reducible refine s_ret ?_ | with_reducible refine s_nil ?_ | with_reducible refine s_own ?_ | with_reducible refine s_par ?_ | with_reducible refine t_tst ?_ | with_reducible refine t_and ?_ | with_reducible refine t_or ?_ | with_reducible refine t_not ?_ | with_reducible refine t_yes ?_ | with_reducible refine e_op ?_ | with_reducible refine e_un ?_ | with_reducible refine e_chain ?_ | with_reducible refine e_b ?_ | with_reducible refine e_c ?_ | with_reducible refine e_l ?_ | with_reducible refine e_tup ?_ | with_reducible refine e_call ?_ | with_reducible refine e_and ?_ | with_reducible refine e_or ?_ | with_reducible refine e_not ?_ | with_reducible refine e_if ?_ | with_reducible refine e_sl ?_ | with_reducible refine o_n ?_ | with_reducible refine o_s ?_ | with_reducible refine a_nil ?_ | with_reducible refine a_cons ?_ | with_reducible refine f_lst ?_ | with_reducible refine f_call ?_ | with_reducible refine f_itA ?_ | with_reducible refine f_r1 ?_ | with_reducible refine r_seq ?_ | with_reducible refine n_add ?_ | with_reducible refine n_sub ?_ | with_reducible refine n_gt ?_ | with_reducible refine n_ge ?_ | with_reducible refine n_lt ?_ | with_reducible refine n_le ?_ | with_reducible refine e_var (by with_unfolding_all rfl) ?_ | with_reducible refine e_ixc (by with_unfolding_all rfl) ?_ | with_reducible refine e_callM (by with_unfolding_all rfl) ?_ | with_reducible refine s_frz (by with_unfolding_all rfl) ?_ | with_reducible refine s_app (by with_unfolding_all rfl) ?_ | with_reducible refine few_and (by first | decide | (simp only [List.length_cons, List.length_nil, Nat.reduceAdd, Nat.reduceLeDiff])) ?_ | refine Or.inl ⟨by first | with_reducible rfl | with_reducible exact Bool.not_false, ?_⟩ | refine Or.inr ⟨by first | with_reducible rfl | with_reducible exact Bool.not_true, ?_⟩ | refine Exists.intro _ (Exists.intro _ ⟨rfl, rfl, gd rfl ?_⟩) | refine Exists.intro _ ⟨rfl, ?_⟩)
      refine pot_at hp3 (by omega) (by decide) (by decide) fun r1 p4 a4 b4 hp4 => ?_
      repeat (first | with_reducible refine s_seq ?_ | with_reducible refine s_if ?_ | with_reducible refine s_set ?_ | with_reducible refine s_setIx ?_ | with_reducible refine s_ret ?_ | with_reducible refine s_nil ?_ | with_reducible refine s_own ?_ | with_reducible refine s_par ?_ | with_reducible refine t_tst ?_ | with_reducible refine t_and ?_ | with_reducible refine t_or ?_ | with_reducible refine t_not ?_ | with_reducible refine t_yes ?_ | with_reducible refine e_op ?_ | with_reducible refine e_un ?_ | with_reducible refine e_chain ?_ | with_reducible refine e_b ?_ | with_reducible refine e_c ?_ | with_reducible refine e_l ?_ | with_reducible refine e_tup ?_ | with_reducible refine e_call ?_ | with_reducible refine e_and ?_ | with_reducible refine e_or ?_ | with_reducible refine e_not ?_ | with_reducible refine e_if ?_ | with_reducible refine e_sl ?_ | with_reducible refine o_n ?_ | with_reducible refine o_s ?_ | with_reducible refine a_nil ?_ | with_reducible refine a_cons ?_ | with_reducible refine f_lst ?_ | with_reducible refine f_call ?_ | with_reducible refine f_itA ?_ | with_reducible refine f_r1 ?_ | with_reducible refine r_seq ?_ | with_reducible refine n_add ?_ | with_reducible refine n_sub ?_ | with_reducible refine n_gt ?_ | with_reducible refine n_ge ?_ | with_reducible refine n_lt ?_ | with_reducible refine n_le ?_ | with_reducible refine e_var (by with_unfolding_all rfl) ?_ | with_reducible refine e_ixc (by with_unfolding_all rfl) ?_ | with_reducible refine e_callM (by with_unfolding_all rfl) ?_ | with_reducible refine s_frz (by with_unfolding_all rfl) ?_ | with_reducible refine s_app (by with_unfolding_all rfl) ?_ | with_reducible refine few_and (by first | decide | (simp only [List.length_cons, List.length_nil, Nat.reduceAdd, Nat.reduceLeDiff])) ?_ | refine Or.inl ⟨by first | with_reducible rfl | with_reducible exact Bool.not_false, ?_⟩ | refine Or.inr ⟨by first | with_reducible rfl | with_reducible exact Bool.not_true, ?_⟩ | refine Exists.intro _ (Exists.intro _ ⟨rfl, rfl, gd rfl ?_⟩) | refine Exists.intro _ ⟨rfl, ?_⟩)
      refine n_mul 100 (by omega) (by omega) (by omega) (by omega) (by decide) (by decide) ?_
      repeat (first | with_reducible refine s_seq ?_ | with_reducible refine s_if ?_ | with_reducible refine s_set ?_ | with_reducible refine s_setIx ?_ | with_reducible refine s_ret ?_ | with_reducible refine s_nil ?_ | with_reducible refine s_own ?_ | with_reducible refine s_par ?_ | with_reducible refine t_tst ?_ | with_reducible refine t_and ?_ | with_reducible refine t_or ?_ | with_reducible refine t_not ?_ | with_reducible refine t_yes ?_ | with_reducible refine e_op ?_ | with_reducible refine e_un ?_ | with_reducible refine e_chain ?_ | with_reducible refine e_b ?_ | with_reducible refine e_c ?_ | with_reducible refine e_l ?_ | with_reducible refine e_tup ?_ | with_reducible refine e_call ?_ | with_reducible refine e_and ?_ | with_reducible refine e_or ?_ | with_reducible refine e_not ?_ | with_reducible refine e_if ?_ | with_reducible refine e_sl ?_ | with_reducible refine o_n ?_ | with_reducible refine o_s ?_ | with_reducible refine a_nil ?_ | with_reducible refine a_cons ?_ | with_reducible refine f_lst ?_ | with_reducible refine f_call ?_ | with_reducible refine f_itA ?_ | with_reducible refine f_r1 ?_ | with_reducible refine r_seq ?_ | with_reducible refine n_add ?_ | with_reducible refine n_sub ?_ | with_reducible refine n_gt ?_ | with_reducible refine n_ge ?_ | with_reducible refine n_lt ?_ | with_reducible refine n_le ?_ | with_reducible refine e_var (by with_unfolding_all rfl) ?_ | with_reducible refine e_ixc (by with_unfolding_all rfl) ?_ | with_reducible refine e_callM (by with_unfolding_all rfl) ?_ | with_reducible refine s_frz (by with_unfolding_all rfl) ?_ | with_reducible refine s_app (by with_unfolding_all rfl) ?_ | with_reducible refine few_and (by first | decide | (simp only [List.length_cons, List.length_nil, Nat.reduceAdd, Nat.reduceLeDiff])) ?_ | refine Or.inl ⟨by first | with_reducible rfl | with_reducible exact Bool.not_false, ?_⟩ | refine Or.inr ⟨by first | with_reducible rfl | with_reducible exact Bool.not_true, ?_⟩ | refine Exists.intro _ (Exists.intro _ ⟨rfl, rfl, gd rfl ?_⟩) | refine Exists.intro _ ⟨rfl, ?_⟩)
      refine n_mul 100 (by omega) (by omega) (by omega) (by omega) (by decide) (by decide) ?_
      repeat (first | with_reducible refine s_seq ?_ | with_reducible refine s_if ?_ | with_reducible refine s_set ?_ | with_reducible refine s_setIx ?_ | with_reducible refine s_ret ?_ | with_reducible refine s_nil ?_ | with_reducible refine s_own ?_ | with_reducible refine s_par ?_ | with_reducible refine t_tst ?_ | with_reducible refine t_and ?_ | with_reducible refine t_or ?_ | with_reducible refine t_not ?_ | with_reducible refine t_yes ?_ | with_reducible refine e_op ?_ | with_reducible refine e_un ?_ | with_reducible refine e_chain ?_ | with_reducible refine e_b ?_ | with_reducible refine e_c ?_ | with_reducible refine e_l ?_ | with_reducible refine e_tup ?_ | with_reducible refine e_call ?_ | with_reducible refine e_and ?_ | with_reducible refine e_or ?_ | with_reducible refine e_not ?_ | with_reducible refine e_if ?_ | with_reducible refine e_sl ?_ | with_reducible refine o_n ?_ | with_reducible refine o_s ?_ | with_reducible refine a_nil ?_ | with_reducible refine a_cons ?_ | with_reducible refine f_lst ?_ | with_reducible refine f_call ?_ | with_reducible refine f_itA ?_ | with_reducible refine f_r1 ?_ | with_reducible refine r_seq ?_ | with_reducible refine n_add ?_ | with_reducible refine n_sub ?_ | with_reducible refine n_gt ?_ | with_reducible refine n_ge ?_ | with_reducible refine n_lt ?_ | with_reducible refine n_le ?_ | with_reducible refine e_var (by with_unfolding_all rfl) ?_ | with_reducible refine e_ixc (by with_unfolding_all rfl) ?_ | with_reducible refine e_callM (by with_unfolding_all rfl) ?_ | with_reducible refine s_frz (by with_unfolding_all rfl) ?_ | with_reducible refine s_app (by with_unfolding_all rfl) ?_ | with_reducible refine few_and (by first | decide | (simp only [List.length_cons, List.length_nil, Nat.reduceAdd, Nat.reduceLeDiff])) ?_ | refine Or.inl ⟨by first | with_reducible rfl | with_reducible exact Bool.not_false, ?_⟩ | refine Or.inr ⟨by first | with_reducible rfl | with_reducible exact Bool.not_true, ?_⟩ | refine Exists.intro _ (Exists.intro _ ⟨rfl, rfl, gd rfl ?_⟩) | refine Exists.intro _ ⟨rfl, ?_⟩)
      have big : (q * (1 + r1)).natAbs < 2 ^ 200 := by
        rw [Int.natAbs_mul]
        have : q.natAbs * (1 + r1).natAbs ≤ 10 ^ 18 * 31 := Nat.mul_le_mul lq (by omega)
        exact Nat.lt_of_le_of_lt this (by decide)
      refine gd_mono (fraction_ok (p := x * (1 + r1)) (q := q * (1 + r1)) (Int.mul_ne_zero q0 (by omega)) big) fun d hd => ?_
      rw [F_times q0 (by omega)] at hd
      obtain ⟨a, b, ha, hb, b0, ab, f⟩ := parts (p := x) q0
      have la := quot_le ha (G_ne q0)
      have lb := quot_le hb (G_ne q0)
      rw [f] at hd
      subst hd
      have rp := repr_pair (a := a) (b := b) (by omega) (by omega)
      have fb : fracB (.tuple [.int a, .int b]) = true := by
        show (decide (0 < b) && decide (Nat.gcd a.natAbs b.natAbs = 1)) = true
        rw [decide_eq_true b0, decide_eq_true ab]
        rfl
      repeat (first | with_reducible refine s_seq ?_ | with_reducible refine s_if ?_ | with_reducible refine s_set ?_ | with_reducible refine s_setIx ?_ | with_reducible refine s_ret ?_ | with_reducible refine s_nil ?_ | with_reducible refine s_own ?_ | with_reducible refine s_par ?_ | with_reducible refine t_tst ?_ | with_reducible refine t_and ?_ | with_reducible refine t_or ?_ | with_reducible refine t_not ?_ | with_reducible refine t_yes ?_ | with_reducible refine e_op ?_ | with_reducible refine e_un ?_ | with_reducible refine e_chain ?_ | with_reducible refine e_b ?_ | with_reducible refine e_c ?_ | with_reducible refine e_l ?_ | with_reducible refine e_tup ?_ | with_reducible refine e_call ?_ | with_reducible refine e_and ?_ | with_reducible refine e_or ?_ | with_reducible refine e_not ?_ | with_reducible refine e_if ?_ | with_reducible refine e_sl ?_ | with_reducible refine o_n ?_ | with_reducible refine o_s ?_ | with_reducible refine a_nil ?_ | with_reducible refine a_cons ?_ | with_reducible refine f_lst ?_ | with_reducible refine f_call ?_ | with_reducible refine f_itA ?_ | with_reducible refine f_r1 ?_ | with_reducible refine r_seq ?_ | with_reducible refine n_add ?_ | with_reducible refine n_sub ?_ | with_reducible refine n_gt ?_ | with_reducible refine n_ge ?_ | with_reducible refine n_lt ?_ | with_reducible refine n_le ?_ | with_reducible refine e_var (by with_unfolding_all rfl) ?_ | with_reducible refine e_ixc (by with_unfolding_all rfl) ?_ | with_reducible refine e_callM (by with_unfolding_all rfl) ?_ | with_reducible refine s_frz (by with_unfolding_all rfl) ?_ | with_reducible refine s_app (by with_unfolding_all rfl) ?_ | with_reducible refine few_and (by first | decide | (simp only [List.length_cons, List.length_nil, Nat.reduceAdd, Nat.reduceLeDiff])) ?_ | refine Or.inl ⟨by first | with_reducible rfl | with_reducible exact Bool.not_false, ?_⟩ | refine Or.inr ⟨by first | with_reducible rfl | with_reducible exact Bool.not_true, ?_⟩ | refine Exists.intro _ (Exists.intro _ ⟨rfl, rfl, gd rfl ?_⟩) | refine Exists.intro _ ⟨rfl, ?_⟩)
      refine gd rp ?_
      repeat (first | with_reducible refine s_seq ?_ | with_reducible refine s_if ?_ | with_reducible refine s_set ?_ | with_reducible refine s_setIx ?_ | with_reducible refine s_ret ?_ | with_reducible refine s_nil ?_ | with_reducible refine s_own ?_ | with_reducible refine s_par ?_ | with_reducible refine t_tst ?_ | with_reducible refine t_and ?_ | with_reducible refine t_or ?_ | with_reducible refine t_not ?_ | with_reducible refine t_yes ?_ | with_reducible refine e_op ?_ | with_reducible refine e_un ?_ | with_reducible refine e_chain ?_ | with_reducible refine e_b ?_ | with_reducible refine e_c ?_ | with_reducible refine e_l ?_ | with_reducible refine e_tup ?_ | with_reducible refine e_call ?_ | with_reducible refine e_and ?_ | with_reducible refine e_or ?_ | with_reducible refine e_not ?_ | with_reducible refine e_if ?_ | with_reducible refine e_sl ?_ | with_reducible refine o_n ?_ | with_reducible refine o_s ?_ | with_reducible refine a_nil ?_ | with_reducible refine a_cons ?_ | with_reducible refine f_lst ?_ | with_reducible refine f_call ?_ | with_reducible refine f_itA ?_ | with_reducible refine f_r1 ?_ | with_reducible refine r_seq ?_ | with_reducible refine n_add ?_ | with_reducible refine n_sub ?_ | with_reducible refine n_gt ?_ | with_reducible refine n_ge ?_ | with_reducible refine n_lt ?_ | with_reducible refine n_le ?_ | with_reducible refine e_var (by with_unfolding_all rfl) ?_ | with_reducible refine e_ixc (by with_unfolding_all rfl) ?_ | with_reducible refine e_callM (by with_unfolding_all rfl) ?_ | with_reducible refine s_frz (by with_unfolding_all rfl) ?_ | with_reducible refine s_app (by with_unfolding_all rfl) ?_ | with_reducible refine few_and (by first | decide | (simp only [List.length_cons, List.length_nil, Nat.reduceAdd, Nat.reduceLeDiff])) ?_ | refine Or.inl ⟨by first | with_reducible rfl | with_reducible exact Bool.not_false, ?_⟩ | refine Or.inr ⟨by first | with_reducible rfl | with_reducible exact Bool.not_true, ?_⟩ | refine Exists.intro _ (Exists.intro _ ⟨rfl, rfl, gd rfl ?_⟩) | refine Exists.intro _ ⟨rfl, ?_⟩)
      refine gd_mono (law_fraction_ok (p := x) (q := q) q0 (by omega)) fun d hd => ?_
      rw [f] at hd
      subst hd
      repeat (first | with_reducible refine s_seq ?_ | with_reducible refine s_if ?_ | with_reducible refine s_set ?_ | with_reducible refine s_setIx ?_ | with_reducible refine s_ret ?_ | with_reducible refine s_nil ?_ | with_reducible refine s_own ?_ | with_reducible refine s_par ?_ | with_reducible refine t_tst ?_ | with_reducible refine t_and ?_ | with_reducible refine t_or ?_ | with_reducible refine t_not ?_ | with_reducible refine t_yes ?_ | with_reducible refine e_op ?_ | with_reducible refine e_un ?_ | with_reducible refine e_chain ?_ | with_reducible refine e_b ?_ | with_reducible refine e_c ?_ | with_reducible refine e_l ?_ | with_reducible refine e_tup ?_ | with_reducible refine e_call ?_ | with_reducible refine e_and ?_ | with_reducible refine e_or ?_ | with_reducible refine e_not ?_ | with_reducible refine e_if ?_ | with_reducible refine e_sl ?_ | with_reducible refine o_n ?_ | with_reducible refine o_s ?_ | with_reducible refine a_nil ?_ | with_reducible refine a_cons ?_ | with_reducible refine f_lst ?_ | with_reducible refine f_call ?_ | with_reducible refine f_itA ?_ | with_reducible refine f_r1 ?_ | with_reducible refine r_seq ?_ | with_reducible refine n_add ?_ | with_reducible refine n_sub ?_ | with_reducible refine n_gt ?_ | with_reducible refine n_ge ?_ | with_reducible refine n_lt ?_ | with_reducible refine n_le ?_ | with_reducible refine e_var (by with_unfolding_all rfl) ?_ | with_reducible refine e_ixc (by with_unfolding_all rfl) ?_ | with_reducible refine e_callM (by with_unfolding_all rfl) ?_ | with_reducible refine s_frz (by with_unfolding_all rfl) ?_ | with_reducible refine s_app (by with_unfolding_all rfl) ?_ | with_reducible refine few_and (by first | decide | (simp only [List.length_cons, List.length_nil, Nat.reduceAdd, Nat.reduceLeDiff])) ?_ | refine Or.inl ⟨by first | with_reducible rfl | with_reducible exact Bool.not_false, ?_⟩ | refine Or.inr ⟨by first | with_reducible rfl | with_reducible exact Bool.not_true, ?_⟩ | refine Exists.intro _ (Exists.intro _ ⟨rfl, rfl, gd rfl ?_⟩) | refine Exists.intro _ ⟨rfl, ?_⟩)
      refine gd rp ?_
      repeat (first | with_reducible refine s_seq ?_ | with_reducible refine s_if ?_ | with_reducible refine s_set ?_ | with_reducible refine s_setIx ?_ | with_reducible refine s_ret ?_ | with_reducible refine s_nil ?_ | with_reducible refine s_own ?_ | with_reducible refine s_par ?_ | with_reducible refine t_tst ?_ | with_reducible refine t_and ?_ | with_reducible refine t_or ?_ | with_reducible refine t_not ?_ | with_reducible refine t_yes ?_ | with_reducible refine e_op ?_ | with_reducible refine e_un ?_ | with_reducible refine e_chain ?_ | with_reducible refine e_b ?_ | with_reducible refine e_c ?_ | with_reducible refine e_l ?_ | with_reducible refine e_tup ?_ | with_reducible refine e_call ?_ | with_reducible refine e_and ?_ | with_reducible refine e_or ?_ | with_reducible refine e_not ?_ | with_reducible refine e_if ?_ | with_reducible refine e_sl ?_ | with_reducible refine o_n ?_ | with_reducible refine o_s ?_ | with_reducible refine a_nil ?_ | with_reducible refine a_cons ?_ | with_reducible refine f_lst ?_ | with_reducible refine f_call ?_ | with_reducible refine f_itA ?_ | with_reducible refine f_r1 ?_ | with_reducible refine r_seq ?_ | with_reducible refine n_add ?_ | with_reducible refine n_sub ?_ | with_reducible refine n_gt ?_ | with_reducible refine n_ge ?_ | with_reducible refine n_lt ?_ | with_reducible refine n_le ?_ | with_reducible refine e_var (by with_unfolding_all rfl) ?_ | with_reducible refine e_ixc (by with_unfolding_all rfl) ?_ | with_reducible refine e_callM (by with_unfolding_all rfl) ?_ | with_reducible refine s_frz (by with_unfolding_all rfl) ?_ | with_reducible refine s_app (by with_unfolding_all rfl) ?_ | with_reducible refine few_and (by first | decide | (simp only [List.length_cons, List.length_nil, Nat.reduceAdd, Nat.reduceLeDiff])) ?_ | refine Or.inl ⟨by first | with_reducible rfl | with_reducible exact Bool.not_false, ?_⟩ | refine Or.inr ⟨by first | with_reducible rfl | with_reducible exact Bool.not_true, ?_⟩ | refine Exists.intro _ (Exists.intro _ ⟨rfl, rfl, gd rfl ?_⟩) | refine Exists.intro _ ⟨rfl, ?_⟩)
      refine gd (ne_text _) ?_
      repeat (first | with_reducible refine s_seq ?_ | with_reducible refine s_if ?_ | with_reducible refine s_set ?_ | with_reducible refine s_setIx ?_ | with_reducible refine s_ret ?_ | with_reducible refine s_nil ?_ | with_reducible refine s_own ?_ | with_reducible refine s_par ?_ | with_reducible refine t_tst ?_ | with_reducible refine t_and ?_ | with_reducible refine t_or ?_ | with_reducible refine t_not ?_ | with_reducible refine t_yes ?_ | with_reducible refine e_op ?_ | with_reducible refine e_un ?_ | with_reducible refine e_chain ?_ | with_reducible refine e_b ?_ | with_reducible refine e_c ?_ | with_reducible refine e_l ?_ | with_reducible refine e_tup ?_ | with_reducible refine e_call ?_ | with_reducible refine e_and ?_ | with_reducible refine e_or ?_ | with_reducible refine e_not ?_ | with_reducible refine e_if ?_ | with_reducible refine e_sl ?_ | with_reducible refine o_n ?_ | with_reducible refine o_s ?_ | with_reducible refine a_nil ?_ | with_reducible refine a_cons ?_ | with_reducible refine f_lst ?_ | with_reducible refine f_call ?_ | with_reducible refine f_itA ?_ | with_reducible refine f_r1 ?_ | with_reducible refine r_seq ?_ | with_reducible refine n_add ?_ | with_reducible refine n_sub ?_ | with_reducible refine n_gt ?_ | with_reducible refine n_ge ?_ | with_reducible refine n_lt ?_ | with_reducible refine n_le ?_ | with_reducible refine e_var (by with_unfolding_all rfl) ?_ | with_reducible refine e_ixc (by with_unfolding_all rfl) ?_ | with_reducible refine e_callM (by with_unfolding_all rfl) ?_ | with_reducible refine s_frz (by with_unfolding_all rfl) ?_ | with_reducible refine s_app (by with_unfolding_all rfl) ?_ | with_reducible refine few_and (by first | decide | (simp only [List.length_cons, List.length_nil, Nat.reduceAdd, Nat.reduceLeDiff])) ?_ | refine Or.inl ⟨by first | with_reducible rfl | with_reducible exact Bool.not_false, ?_⟩ | refine Or.inr ⟨by first | with_reducible rfl | with_reducible exact Bool.not_true, ?_⟩ | refine Exists.intro _ (Exists.intro _ ⟨rfl, rfl, gd rfl ?_⟩) | refine Exists.intro _ ⟨rfl, ?_⟩)
      refine gd_mono (is_fraction_ok (th_int (a := a) (b := b) (by omega))) fun d hd => ?_
      rw [fb] at hd
      subst hd
      repeat (first | with_reducible refine s_seq ?_ | with_reducible refine s_if ?_ | with_reducible refine s_set ?_ | with_reducible refine s_setIx ?_ | with_reducible refine s_ret ?_ | with_reducible refine s_nil ?_ | with_reducible refine s_own ?_ | with_reducible refine s_par ?_ | with_reducible refine t_tst ?_ | with_reducible refine t_and ?_ | with_reducible refine t_or ?_ | with_reducible refine t_not ?_ | with_reducible refine t_yes ?_ | with_reducible refine e_op ?_ | with_reducible refine e_un ?_ | with_reducible refine e_chain ?_ | with_reducible refine e_b ?_ | with_reducible refine e_c ?_ | with_reducible refine e_l ?_ | with_reducible refine e_tup ?_ | with_reducible refine e_call ?_ | with_reducible refine e_and ?_ | with_reducible refine e_or ?_ | with_reducible refine e_not ?_ | with_reducible refine e_if ?_ | with_reducible refine e_sl ?_ | with_reducible refine o_n ?_ | with_reducible refine o_s ?_ | with_reducible refine a_nil ?_ | with_reducible refine a_cons ?_ | with_reducible refine f_lst ?_ | with_reducible refine f_call ?_ | with_reducible refine f_itA ?_ | with_reducible refine f_r1 ?_ | with_reducible refine r_seq ?_ | with_reducible refine n_add ?_ | with_reducible refine n_sub ?_ | with_reducible refine n_gt ?_ | with_reducible refine n_ge ?_ | with_reducible refine n_lt ?_ | with_reducible refine n_le ?_ | with_reducible refine e_var (by with_unfolding_all rfl) ?_ | with_reducible refine e_ixc (by with_unfolding_all rfl) ?_ | with_reducible refine e_callM (by with_unfolding_all rfl) ?_ | with_reducible refine s_frz (by with_unfolding_all rfl) ?_ | with_reducible refine s_app (by with_unfolding_all rfl) ?_ | with_reducible refine few_and (by first | decide | (simp only [List.length_cons, List.length_nil, Nat.reduceAdd, Nat.reduceLeDiff])) ?_ | refine Or.inl ⟨by first | with_reducible rfl | with_reducible exact Bool.not_false, ?_⟩ | refine Or.inr ⟨by first | with_reducible rfl | with_reducible exact Bool.not_true, ?_⟩ | refine Exists.intro _ (Exists.intro _ ⟨rfl, rfl, gd rfl ?_⟩) | refine Exists.intro _ ⟨rfl, ?_⟩)
      refine gd (a := .bool false) rfl ?_
      repeat (first | with_reducible refine s_seq ?_ | with_reducible refine s_if ?_ | with_reducible refine s_set ?_ | with_reducible refine s_setIx ?_ | with_reducible refine s_ret ?_ | with_reducible refine s_nil ?_ | with_reducible refine s_own ?_ | with_reducible refine s_par ?_ | with_reducible refine t_tst ?_ | with_reducible refine t_and ?_ | with_reducible refine t_or ?_ | with_reducible refine t_not ?_ | with_reducible refine t_yes ?_ | with_reducible refine e_op ?_ | with_reducible refine e_un ?_ | with_reducible refine e_chain ?_ | with_reducible refine e_b ?_ | with_reducible refine e_c ?_ | with_reducible refine e_l ?_ | with_reducible refine e_tup ?_ | with_reducible refine e_call ?_ | with_reducible refine e_and ?_ | with_reducible refine e_or ?_ | with_reducible refine e_not ?_ | with_reducible refine e_if ?_ | with_reducible refine e_sl ?_ | with_reducible refine o_n ?_ | with_reducible refine o_s ?_ | with_reducible refine a_nil ?_ | with_reducible refine a_cons ?_ | with_reducible refine f_lst ?_ | with_reducible refine f_call ?_ | with_reducible refine f_itA ?_ | with_reducible refine f_r1 ?_ | with_reducible refine r_seq ?_ | with_reducible refine n_add ?_ | with_reducible refine n_sub ?_ | with_reducible refine n_gt ?_ | with_reducible refine n_ge ?_ | with_reducible refine n_lt ?_ | with_reducible refine n_le ?_ | with_reducible refine e_var (by with_unfolding_all rfl) ?_ | with_reducible refine e_ixc (by with_unfolding_all rfl) ?_ | with_reducible refine e_callM (by with_unfolding_all rfl) ?_ | with_reducible refine s_frz (by with_unfolding_all rfl) ?_ | with_reducible refine s_app (by with_unfolding_all rfl) ?_ | with_reducible refine few_and (by first | decide | (simp only [List.length_cons, List.length_nil, Nat.reduceAdd, Nat.reduceLeDiff])) ?_ | refine Or.inl ⟨by first | with_reducible rfl | with_reducible exact Bool.not_false, ?_⟩ | refine Or.inr ⟨by first | with_reducible rfl | with_reducible exact Bool.not_true, ?_⟩ | refine Exists.intro _ (Exists.intro _ ⟨rfl, rfl, gd rfl ?_⟩) | refine Exists.intro _ ⟨rfl, ?_⟩)
      refine s_fgt rfl ?_
      refine s_for (I := fun r' s => (∀ d ∈ r', Th d) ∧ ∃ (p : List PyData) (v3 v8 v9 : SV), s = [.dat (script ns), .dat (.int (k : Nat)), .own p, v3, .dat (.int x), .dat (.int q), .dat (.int (1 + r1)), .dat (.tuple [.int a, .int b]), v8, v9] ∧ notOwn (some v3) = true ∧ Pot (100 * (6 - r.length)) p) ?_ (fun d r' s hI => ?_) (fun s hI => ?_)
      · refine f_itA ?_
        refine e_op ?_
        refine e_l ?_
        refine f_lc (I := fun r' m s' => r'.length + m.length = 4 ∧ (∀ d ∈ m, Th d) ∧ ∃ (p : List PyData) (v3 : SV), s' = [.dat (script ns), .dat (.int (k : Nat)), .own p, v3, .dat (.int x), .dat (.int q), .dat (.int (1 + r1)), .dat (.tuple [.int a, .int b]), u8, u9] ∧ Pot (100 * (6 - (r.length + 1)) + 40 + 10 * m.length) p) ?_ (fun d r' m s' hI => ?_) (fun m s' hI => ?_)
        · repeat (first | with_reducible refine s_seq ?_ | with_reducible refine s_if ?_ | with_reducible refine s_set ?_ | with_reducible refine s_setIx ?_ | with_reducible refine s_ret ?_ | with_reducible refine s_nil ?_ | with_reducible refine s_own ?_ | with_reducible refine s_par ?_ | with_reducible refine t_tst ?_ | with_reducible refine t_and ?_ | with_reducible refine t_or ?_ | with_reducible refine t_not ?_ | with_reducible refine t_yes ?_ | with_reducible refine e_op ?_ | with_reducible refine e_un ?_ | with_reducible refine e_chain ?_ | with_reducible refine e_b ?_ | with_reducible refine e_c ?_ | with_reducible refine e_l ?_ | with_reducible refine e_tup ?_ | with_reducible refine e_call ?_ | with_reducible refine e_and ?_ | with_reducible refine e_or ?_ | with_reducible refine e_not ?_ | with_reducible refine e_if ?_ | with_reducible refine e_sl ?_ | with_reducible refine o_n ?_ | with_reducible refine o_s ?_ | with_reducible refine a_nil ?_ | with_reducible refine a_cons ?_ | with_reducible refine f_lst ?_ | with_reducible refine f_call ?_ | with_reducible refine f_itA ?_ | with_reducible refine f_r1 ?_ | with_reducible refine r_seq ?_ | with_reducible refine n_add ?_ | with_reducible refine n_sub ?_ | with_reducible refine n_gt ?_ | with_reducible refine n_ge ?_ | with_reducible refine n_lt ?_ | with_reducible refine n_le ?_ | with_reducible refine e_var (by with_unfolding_all rfl) ?_ | with_reducible refine e_ixc (by with_unfolding_all rfl) ?_ | with_reducible refine e_callM (by with_unfolding_all rfl) ?_ | with_reducible refine s_frz (by with_unfolding_all rfl) ?_ | with_reducible refine s_app (by with_unfolding_all rfl) ?_ | with_reducible refine few_and (by first | decide | (simp only [List.length_cons, List.length_nil, Nat.reduceAdd, Nat.reduceLeDiff])) ?_ | refine Or.inl ⟨by first | with_reducible rfl | with_reducible exact Bool.not_false, ?_⟩ | refine Or.inr ⟨by first | with_reducible rfl | with_reducible exact Bool.not_true, ?_⟩ | refine Exists.intro _ (Exists.intro _ ⟨rfl, rfl, gd rfl ?_⟩) | refine Exists.intro _ ⟨rfl, ?_⟩)
          exact ⟨by decide, by decide, rfl, by decide, rfl, all_nil, p4, _, rfl, hp4.mono (by simp only [List.length_nil]; omega)⟩
        · obtain ⟨lm, tm, p, v3, rfl, hp⟩ := hI
          rw [List.length_cons] at lm
          refine t_yes ?_
          refine ⟨rfl, .inl ⟨rfl, ?_⟩⟩
          repeat (first | with_reducible refine s_seq ?_ | with_reducible refine s_if ?_ | with_reducible refine s_set ?_ | with_reducible refine s_setIx ?_ | with_reducible refine s_ret ?_ | with_reducible refine s_nil ?_ | with_reducible refine s_own ?_ | with_reducible refine s_par ?_ | with_reducible refine t_tst ?_ | with_reducible refine t_and ?_ | with_reducible refine t_or ?_ | with_reducible refine t_not ?_ | with_reducible refine t_yes ?_ | with_reducible refine e_op ?_ | with_reducible refine e_un ?_ | with_reducible refine e_chain ?_ | with_reducible refine e_b ?_ | with_reducible refine e_c ?_ | with_reducible refine e_l ?_ | with_reducible refine e_tup ?_ | with_reducible refine e_call ?_ | with_reducible refine e_and ?_ | with_reducible refine e_or ?_ | with_reducible refine e_not ?_ | with_reducible refine e_if ?_ | with_reducible refine e_sl ?_ | with_reducible refine o_n ?_ | with_reducible refine o_s ?_ | with_reducible refine a_nil ?_ | with_reducible refine a_cons ?_ | with_reducible refine f_lst ?_ | with_reducible refine f_call ?_ | with_reducible refine f_itA ?_ | with_reducible refine f_r1 ?_ | with_reducible refine r_seq ?_ | with_reducible refine n_add ?_ | with_reducible refine n_sub ?_ | with_reducible refine n_gt ?_ | with_reducible refine n_ge ?_ | with_reducible refine n_lt ?_ | with_reducible refine n_le ?_ | with_reducible refine e_var (by with_unfolding_all rfl) ?_ | with_reducible refine e_ixc (by with_unfolding_all rfl) ?_ | with_reducible refine e_callM (by with_unfolding_all rfl) ?_ | with_reducible refine s_frz (by with_unfolding_all rfl) ?_ | with_reducible refine s_app (by with_unfolding_all rfl) ?_ | with_reducible refine few_and (by first | decide | (simp only [List.length_cons, List.length_nil, Nat.reduceAdd, Nat.reduceLeDiff])) ?_ | refine Or.inl ⟨by first | with_reducible rfl | with_reducible exact Bool.not_false, ?_⟩ | refine Or.inr ⟨by first | with_reducible rfl | with_reducible exact Bool.not_true, ?_⟩ | refine Exists.intro _ (Exists.intro _ ⟨rfl, rfl, gd rfl ?_⟩) | refine Exists.intro _ ⟨rfl, ?_⟩)
          refine gd_mono (odd_ok hp (by omega) (p := a) (q := b) (by omega) (by omega)) fun w hw => ?_
          obtain ⟨d2, p5⟩ := w
          obtain ⟨td, hp5⟩ := hw
          refine ⟨rfl, by rw [List.length_append, List.length_singleton]; omega, fun e he => ?_, p5, _, rfl, Pot.mono hp5 (by rw [List.length_append, List.length_singleton]; omega)⟩
          rcases List.mem_append.mp he with z | z
          · exact tm e z
          · rw [List.mem_singleton] at z; subst z; exact td
        · obtain ⟨lm, tm, p, v3, rfl, hp⟩ := hI
          rw [List.length_nil] at lm
          repeat (first | with_reducible refine s_seq ?_ | with_reducible refine s_if ?_ | with_reducible refine s_set ?_ | with_reducible refine s_setIx ?_ | with_reducible refine s_ret ?_ | with_reducible refine s_nil ?_ | with_reducible refine s_own ?_ | with_reducible refine s_par ?_ | with_reducible refine t_tst ?_ | with_reducible refine t_and ?_ | with_reducible refine t_or ?_ | with_reducible refine t_not ?_ | with_reducible refine t_yes ?_ | with_reducible refine e_op ?_ | with_reducible refine e_un ?_ | with_reducible refine e_chain ?_ | with_reducible refine e_b ?_ | with_reducible refine e_c ?_ | with_reducible refine e_l ?_ | with_reducible refine e_tup ?_ | with_reducible refine e_call ?_ | with_reducible refine e_and ?_ | with_reducible refine e_or ?_ | with_reducible refine e_not ?_ | with_reducible refine e_if ?_ | with_reducible refine e_sl ?_ | with_reducible refine o_n ?_ | with_reducible refine o_s ?_ | with_reducible refine a_nil ?_ | with_reducible refine a_cons ?_ | with_reducible refine f_lst ?_ | with_reducible refine f_call ?_ | with_reducible refine f_itA ?_ | with_reducible refine f_r1 ?_ | with_reducible refine r_seq ?_ | with_reducible refine n_add ?_ | with_reducible refine n_sub ?_ | with_reducible refine n_gt ?_ | with_reducible refine n_ge ?_ | with_reducible refine n_lt ?_ | with_reducible refine n_le ?_ | with_reducible refine e_var (by with_unfolding_all rfl) ?_ | with_reducible refine e_ixc (by with_unfolding_all rfl) ?_ | with_reducible refine e_callM (by with_unfolding_all rfl) ?_ | with_reducible refine s_frz (by with_unfolding_all rfl) ?_ | with_reducible refine s_app (by with_unfolding_all rfl) ?_ | with_reducible refine few_and (by first | decide | (simp only [List.length_cons, List.length_nil, Nat.reduceAdd, Nat.reduceLeDiff])) ?_ | refine Or.inl ⟨by first | with_reducible rfl | with_reducible exact Bool.not_false, ?_⟩ | refine Or.inr ⟨by first | with_reducible rfl | with_reducible exact Bool.not_true, ?_⟩ | refine Exists.intro _ (Exists.intro _ ⟨rfl, rfl, gd rfl ?_⟩) | refine Exists.intro _ ⟨rfl, ?_⟩)
          refine cat_list (by rw [List.length_singleton]; omega) ?_
          refine .inl ⟨_, .inl rfl, fun e he => ?_, p, _, _, _, rfl, rfl, hp.mono (by omega)⟩
          rcases List.mem_append.mp he with z | z
          · exact tm e z
          · rw [List.mem_singleton] at z
            subst z
            exact th_int (by omega)
      · obtain ⟨td, p, v3, v8, v9, rfl, nv, hp⟩ := hI
        have t1 := td d List.mem_cons_self
        refine ⟨_, rfl, ?_⟩
        repeat (first | with_reducible refine s_seq ?_ | with_reducible refine s_if ?_ | with_reducible refine s_set ?_ | with_reducible refine s_setIx ?_ | with_reducible refine s_ret ?_ | with_reducible refine s_nil ?_ | with_reducible refine s_own ?_ | with_reducible refine s_par ?_ | with_reducible refine t_tst ?_ | with_reducible refine t_and ?_ | with_reducible refine t_or ?_ | with_reducible refine t_not ?_ | with_reducible refine t_yes ?_ | with_reducible refine e_op ?_ | with_reducible refine e_un ?_ | with_reducible refine e_chain ?_ | with_reducible refine e_b ?_ | with_reducible refine e_c ?_ | with_reducible refine e_l ?_ | with_reducible refine e_tup ?_ | with_reducible refine e_call ?_ | with_reducible refine e_and ?_ | with_reducible refine e_or ?_ | with_reducible refine e_not ?_ | with_reducible refine e_if ?_ | with_reducible refine e_sl ?_ | with_reducible refine o_n ?_ | with_reducible refine o_s ?_ | with_reducible refine a_nil ?_ | with_reducible refine a_cons ?_ | with_reducible refine f_lst ?_ | with_reducible refine f_call ?_ | with_reducible refine f_itA ?_ | with_reducible refine f_r1 ?_ | with_reducible refine r_seq ?_ | with_reducible refine n_add ?_ | with_reducible refine n_sub ?_ | with_reducible refine n_gt ?_ | with_reducible refine n_ge ?_ | with_reducible refine n_lt ?_ | with_reducible refine n_le ?_ | with_reducible refine e_var (by with_unfolding_all rfl) ?_ | with_reducible refine e_ixc (by with_unfolding_all rfl) ?_ | with_reducible refine e_callM (by with_unfolding_all rfl) ?_ | with_reducible refine s_frz (by with_unfolding_all rfl) ?_ | with_reducible refine s_app (by with_unfolding_all rfl) ?_ | with_reducible refine few_and (by first | decide | (simp only [List.length_cons, List.length_nil, Nat.reduceAdd, Nat.reduceLeDiff])) ?_ | refine Or.inl ⟨by first | with_reducible rfl | with_reducible exact Bool.not_false, ?_⟩ | refine Or.inr ⟨by first | with_reducible rfl | with_reducible exact Bool.not_true, ?_⟩ | refine Exists.intro _ (Exists.intro _ ⟨rfl, rfl, gd rfl ?_⟩) | refine Exists.intro _ ⟨rfl, ?_⟩)
        refine gd_mono (is_fraction_ok t1) fun e he => ?_
        subst he
        repeat (first | with_reducible refine s_seq ?_ | with_reducible refine s_if ?_ | with_reducible refine s_set ?_ | with_reducible refine s_setIx ?_ | with_reducible refine s_ret ?_ | with_reducible refine s_nil ?_ | with_reducible refine s_own ?_ | with_reducible refine s_par ?_ | with_reducible refine t_tst ?_ | with_reducible refine t_and ?_ | with_reducible refine t_or ?_ | with_reducible refine t_not ?_ | with_reducible refine t_yes ?_ | with_reducible refine e_op ?_ | with_reducible refine e_un ?_ | with_reducible refine e_chain ?_ | with_reducible refine e_b ?_ | with_reducible refine e_c ?_ | with_reducible refine e_l ?_ | with_reducible refine e_tup ?_ | with_reducible refine e_call ?_ | with_reducible refine e_and ?_ | with_reducible refine e_or ?_ | with_reducible refine e_not ?_ | with_reducible refine e_if ?_ | with_reducible refine e_sl ?_ | with_reducible refine o_n ?_ | with_reducible refine o_s ?_ | with_reducible refine a_nil ?_ | with_reducible refine a_cons ?_ | with_reducible refine f_lst ?_ | with_reducible refine f_call ?_ | with_reducible refine f_itA ?_ | with_reducible refine f_r1 ?_ | with_reducible refine r_seq ?_ | with_reducible refine n_add ?_ | with_reducible refine n_sub ?_ | with_reducible refine n_gt ?_ | with_reducible refine n_ge ?_ | with_reducible refine n_lt ?_ | with_reducible refine n_le ?_ | with_reducible refine e_var (by with_unfolding_all rfl) ?_ | with_reducible refine e_ixc (by with_unfolding_all rfl) ?_ | with_reducible refine e_callM (by with_unfolding_all rfl) ?_ | with_reducible refine s_frz (by with_unfolding_all rfl) ?_ | with_reducible refine s_app (by with_unfolding_all rfl) ?_ | with_reducible refine few_and (by first | decide | (simp only [List.length_cons, List.length_nil, Nat.reduceAdd, Nat.reduceLeDiff])) ?_ | refine Or.inl ⟨by first | with_reducible rfl | with_reducible exact Bool.not_false, ?_⟩ | refine Or.inr ⟨by first | with_reducible rfl | with_reducible exact Bool.not_true, ?_⟩ | refine Exists.intro _ (Exists.intro _ ⟨rfl, rfl, gd rfl ?_⟩) | refine Exists.intro _ ⟨rfl, ?_⟩)
        refine gd (a := .bool true) rfl ?_
        repeat (first | with_reducible refine s_seq ?_ | with_reducible refine s_if ?_ | with_reducible refine s_set ?_ | with_reducible refine s_setIx ?_ | with_reducible refine s_ret ?_ | with_reducible refine s_nil ?_ | with_reducible refine s_own ?_ | with_reducible refine s_par ?_ | with_reducible refine t_tst ?_ | with_reducible refine t_and ?_ | with_reducible refine t_or ?_ | with_reducible refine t_not ?_ | with_reducible refine t_yes ?_ | with_reducible refine e_op ?_ | with_reducible refine e_un ?_ | with_reducible refine e_chain ?_ | with_reducible refine e_b ?_ | with_reducible refine e_c ?_ | with_reducible refine e_l ?_ | with_reducible refine e_tup ?_ | with_reducible refine e_call ?_ | with_reducible refine e_and ?_ | with_reducible refine e_or ?_ | with_reducible refine e_not ?_ | with_reducible refine e_if ?_ | with_reducible refine e_sl ?_ | with_reducible refine o_n ?_ | with_reducible refine o_s ?_ | with_reducible refine a_nil ?_ | with_reducible refine a_cons ?_ | with_reducible refine f_lst ?_ | with_reducible refine f_call ?_ | with_reducible refine f_itA ?_ | with_reducible refine f_r1 ?_ | with_reducible refine r_seq ?_ | with_reducible refine n_add ?_ | with_reducible refine n_sub ?_ | with_reducible refine n_gt ?_ | with_reducible refine n_ge ?_ | with_reducible refine n_lt ?_ | with_reducible refine n_le ?_ | with_reducible refine e_var (by with_unfolding_all rfl) ?_ | with_reducible refine e_ixc (by with_unfolding_all rfl) ?_ | with_reducible refine e_callM (by with_unfolding_all rfl) ?_ | with_reducible refine s_frz (by with_unfolding_all rfl) ?_ | with_reducible refine s_app (by with_unfolding_all rfl) ?_ | with_reducible refine few_and (by first | decide | (simp only [List.length_cons, List.length_nil, Nat.reduceAdd, Nat.reduceLeDiff])) ?_ | refine Or.inl ⟨by first | with_reducible rfl | with_reducible exact Bool.not_false, ?_⟩ | refine Or.inr ⟨by first | with_reducible rfl | with_reducible exact Bool.not_true, ?_⟩ | refine Exists.intro _ (Exists.intro _ ⟨rfl, rfl, gd rfl ?_⟩) | refine Exists.intro _ ⟨rfl, ?_⟩)
        refine gd_mono (law_is_fraction_ok t1) fun e he => ?_
        subst he
        refine gd (ne_self _) ?_
        repeat (first | with_reducible refine s_seq ?_ | with_reducible refine s_if ?_ | with_reducible refine s_set ?_ | with_reducible refine s_setIx ?_ | with_reducible refine s_ret ?_ | with_reducible refine s_nil ?_ | with_reducible refine s_own ?_ | with_reducible refine s_par ?_ | with_reducible refine t_tst ?_ | with_reducible refine t_and ?_ | with_reducible refine t_or ?_ | with_reducible refine t_not ?_ | with_reducible refine t_yes ?_ | with_reducible refine e_op ?_ | with_reducible refine e_un ?_ | with_reducible refine e_chain ?_ | with_reducible refine e_b ?_ | with_reducible refine e_c ?_ | with_reducible refine e_l ?_ | with_reducible refine e_tup ?_ | with_reducible refine e_call ?_ | with_reducible refine e_and ?_ | with_reducible refine e_or ?_ | with_reducible refine e_not ?_ | with_reducible refine e_if ?_ | with_reducible refine e_sl ?_ | with_reducible refine o_n ?_ | with_reducible refine o_s ?_ | with_reducible refine a_nil ?_ | with_reducible refine a_cons ?_ | with_reducible refine f_lst ?_ | with_reducible refine f_call ?_ | with_reducible refine f_itA ?_ | with_reducible refine f_r1 ?_ | with_reducible refine r_seq ?_ | with_reducible refine n_add ?_ | with_reducible refine n_sub ?_ | with_reducible refine n_gt ?_ | with_reducible refine n_ge ?_ | with_reducible refine n_lt ?_ | with_reducible refine n_le ?_ | with_reducible refine e_var (by with_unfolding_all rfl) ?_ | with_reducible refine e_ixc (by with_unfolding_all rfl) ?_ | with_reducible refine e_callM (by with_unfolding_all rfl) ?_ | with_reducible refine s_frz (by with_unfolding_all rfl) ?_ | with_reducible refine s_app (by with_unfolding_all rfl) ?_ | with_reducible refine few_and (by first | decide | (simp only [List.length_cons, List.length_nil, Nat.reduceAdd, Nat.reduceLeDiff])) ?_ | refine Or.inl ⟨by first | with_reducible rfl | with_reducible exact Bool.not_false, ?_⟩ | refine Or.inr ⟨by first | with_reducible rfl | with_reducible exact Bool.not_true, ?_⟩ | refine Exists.intro _ (Exists.intro _ ⟨rfl, rfl, gd rfl ?_⟩) | refine Exists.intro _ ⟨rfl, ?_⟩)
        exact ⟨fun e he => td e (List.mem_cons_of_mem _ he), p, _, _, _, rfl, nv, hp⟩
      · obtain ⟨_, p, v3, v8, v9, rfl, nv, hp⟩ := hI
        exact ⟨hr2', _, _, _, _, _, _, _, p, rfl, nv, hp, by omega⟩
    · obtain ⟨_, u3, u4, u5, u6, u7, u8, u9, p0, rfl, nv, _, _⟩ := hI
      exact ⟨hr', _, _, _, _, _, _, _, _, _, nv, rfl⟩
  · obtain ⟨_, v1, v2, v3, v4, v5, v6, v7, v8, v9, _, rfl⟩ := hI
    repeat (first | with_reducible refine s_seq ?_ | with_reducible refine s_if ?_ | with_reducible refine s_set ?_ | with_reducible refine s_setIx ?_ | with_reducible refine s_ret ?_ | with_reducible refine s_nil ?_ | with_reducible refine s_own ?_ | with_reducible refine s_par ?_ | with_reducible refine t_tst ?_ | with_reducible refine t_and ?_ | with_reducible refine t_or ?_ | with_reducible refine t_not ?_ | with_reducible refine t_yes ?_ | with_reducible refine e_op ?_ | with_reducible refine e_un ?_ | with_reducible refine e_chain ?_ | with_reducible refine e_b ?_ | with_reducible refine e_c ?_ | with_reducible refine e_l ?_ | with_reducible refine e_tup ?_ | with_reducible refine e_call ?_ | with_reducible refine e_and ?_ | with_reducible refine e_or ?_ | with_reducible refine e_not ?_ | with_reducible refine e_if ?_ | with_reducible refine e_sl ?_ | with_reducible refine o_n ?_ | with_reducible refine o_s ?_ | with_reducible refine a_nil ?_ | with_reducible refine a_cons ?_ | with_reducible refine f_lst ?_ | with_reducible refine f_call ?_ | with_reducible refine f_itA ?_ | with_reducible refine f_r1 ?_ | with_reducible refine r_seq ?_ | with_reducible refine n_add ?_ | with_reducible refine n_sub ?_ | with_reducible refine n_gt ?_ | with_reducible refine n_ge ?_ | with_reducible refine n_lt ?_ | with_reducible refine n_le ?_ | with_reducible refine e_var (by with_unfolding_all rfl) ?_ | with_reducible refine e_ixc (by with_unfolding_all rfl) ?_ | with_reducible refine e_callM (by with_unfolding_all rfl) ?_ | with_reducible refine s_frz (by with_unfolding_all rfl) ?_ | with_reducible refine s_app (by with_unfolding_all rfl) ?_ | with_reducible refine few_and (by first | decide | (simp only [List.length_cons, List.length_nil, Nat.reduceAdd, Nat.reduceLeDiff])) ?_ | refine Or.inl ⟨by first | with_reducible rfl | with_reducible exact Bool.not_false, ?_⟩ | refine Or.inr ⟨by first | with_reducible rfl | with_reducible exact Bool.not_true, ?_⟩ | refine Exists.intro _ (Exists.intro _ ⟨rfl, rfl, gd rfl ?_⟩) | refine Exists.intro _ ⟨rfl, ?_⟩)
    refine gd (a := .int (-7)) rfl ?_
    repeat (first | with_reducible refine s_seq ?_ | with_reducible refine s_if ?_ | with_reducible refine s_set ?_ | with_reducible refine s_setIx ?_ | with_reducible refine s_ret ?_ | with_reducible refine s_nil ?_ | with_reducible refine s_own ?_ | with_reducible refine s_par ?_ | with_reducible refine t_tst ?_ | with_reducible refine t_and ?_ | with_reducible refine t_or ?_ | with_reducible refine t_not ?_ | with_reducible refine t_yes ?_ | with_reducible refine e_op ?_ | with_reducible refine e_un ?_ | with_reducible refine e_chain ?_ | with_reducible refine e_b ?_ | with_reducible refine e_c ?_ | with_reducible refine e_l ?_ | with_reducible refine e_tup ?_ | with_reducible refine e_call ?_ | with_reducible refine e_and ?_ | with_reducible refine e_or ?_ | with_reducible refine e_not ?_ | with_reducible refine e_if ?_ | with_reducible refine e_sl ?_ | with_reducible refine o_n ?_ | with_reducible refine o_s ?_ | with_reducible refine a_nil ?_ | with_reducible refine a_cons ?_ | with_reducible refine f_lst ?_ | with_reducible refine f_call ?_ | with_reducible refine f_itA ?_ | with_reducible refine f_r1 ?_ | with_reducible refine r_seq ?_ | with_reducible refine n_add ?_ | with_reducible refine n_sub ?_ | with_reducible refine n_gt ?_ | with_reducible refine n_ge ?_ | with_reducible refine n_lt ?_ | with_reducible refine n_le ?_ | with_reducible refine e_var (by with_unfolding_all rfl) ?_ | with_reducible refine e_ixc (by with_unfolding_all rfl) ?_ | with_reducible refine e_callM (by with_unfolding_all rfl) ?_ | with_reducible refine s_frz (by with_unfolding_all rfl) ?_ | with_reducible refine s_app (by with_unfolding_all rfl) ?_ | with_reducible refine few_and (by first | decide | (simp only [List.length_cons, List.length_nil, Nat.reduceAdd, Nat.reduceLeDiff])) ?_ | refine Or.inl ⟨by first | with_reducible rfl | with_reducible exact Bool.not_false, ?_⟩ | refine Or.inr ⟨by first | with_reducible rfl | with_reducible exact Bool.not_true, ?_⟩ | refine Exists.intro _ (Exists.intro _ ⟨rfl, rfl, gd rfl ?_⟩) | refine Exists.intro _ ⟨rfl, ?_⟩)
    refine gd_mono (fraction_ok (p := 0) (q := -7) (by decide) (by decide)) fun d hd => ?_
    have e1 : F 0 (-7) = .tuple [.int 0, .int 1] := by
      have a : (0 : Int).fdiv (G 0 (-7)) = 0 := by decide +kernel
      have b : (-7 : Int).fdiv (G 0 (-7)) = 1 := by decide +kernel
      unfold F
      rw [a, b]
    rw [e1] at hd
    subst hd
    repeat (first | with_reducible refine s_seq ?_ | with_reducible refine s_if ?_ | with_reducible refine s_set ?_ | with_reducible refine s_setIx ?_ | with_reducible refine s_ret ?_ | with_reducible refine s_nil ?_ | with_reducible refine s_own ?_ | with_reducible refine s_par ?_ | with_reducible refine t_tst ?_ | with_reducible refine t_and ?_ | with_reducible refine t_or ?_ | with_reducible refine t_not ?_ | with_reducible refine t_yes ?_ | with_reducible refine e_op ?_ | with_reducible refine e_un ?_ | with_reducible refine e_chain ?_ | with_reducible refine e_b ?_ | with_reducible refine e_c ?_ | with_reducible refine e_l ?_ | with_reducible refine e_tup ?_ | with_reducible refine e_call ?_ | with_reducible refine e_and ?_ | with_reducible refine e_or ?_ | with_reducible refine e_not ?_ | with_reducible refine e_if ?_ | with_reducible refine e_sl ?_ | with_reducible refine o_n ?_ | with_reducible refine o_s ?_ | with_reducible refine a_nil ?_ | with_reducible refine a_cons ?_ | with_reducible refine f_lst ?_ | with_reducible refine f_call ?_ | with_reducible refine f_itA ?_ | with_reducible refine f_r1 ?_ | with_reducible refine r_seq ?_ | with_reducible refine n_add ?_ | with_reducible refine n_sub ?_ | with_reducible refine n_gt ?_ | with_reducible refine n_ge ?_ | with_reducible refine n_lt ?_ | with_reducible refine n_le ?_ | with_reducible refine e_var (by with_unfolding_all rfl) ?_ | with_reducible refine e_ixc (by with_unfolding_all rfl) ?_ | with_reducible refine e_callM (by with_unfolding_all rfl) ?_ | with_reducible refine s_frz (by with_unfolding_all rfl) ?_ | with_reducible refine s_app (by with_unfolding_all rfl) ?_ | with_reducible refine few_and (by first | decide | (simp only [List.length_cons, List.length_nil, Nat.reduceAdd, Nat.reduceLeDiff])) ?_ | refine Or.inl ⟨by first | with_reducible rfl | with_reducible exact Bool.not_false, ?_⟩ | refine Or.inr ⟨by first | with_reducible rfl | with_reducible exact Bool.not_true, ?_⟩ | refine Exists.intro _ (Exists.intro _ ⟨rfl, rfl, gd rfl ?_⟩) | refine Exists.intro _ ⟨rfl, ?_⟩)
    refine gd (a := .bool true) rfl ?_
    repeat (first | with_reducible refine s_seq ?_ | with_reducible refine s_if ?_ | with_reducible refine s_set ?_ | with_reducible refine s_setIx ?_ | with_reducible refine s_ret ?_ | with_reducible refine s_nil ?_ | with_reducible refine s_own ?_ | with_reducible refine s_par ?_ | with_reducible refine t_tst ?_ | with_reducible refine t_and ?_ | with_reducible refine t_or ?_ | with_reducible refine t_not ?_ | with_reducible refine t_yes ?_ | with_reducible refine e_op ?_ | with_reducible refine e_un ?_ | with_reducible refine e_chain ?_ | with_reducible refine e_b ?_ | with_reducible refine e_c ?_ | with_reducible refine e_l ?_ | with_reducible refine e_tup ?_ | with_reducible refine e_call ?_ | with_reducible refine e_and ?_ | with_reducible refine e_or ?_ | with_reducible refine e_not ?_ | with_reducible refine e_if ?_ | with_reducible refine e_sl ?_ | with_reducible refine o_n ?_ | with_reducible refine o_s ?_ | with_reducible refine a_nil ?_ | with_reducible refine a_cons ?_ | with_reducible refine f_lst ?_ | with_reducible refine f_call ?_ | with_reducible refine f_itA ?_ | with_reducible refine f_r1 ?_ | with_reducible refine r_seq ?_ | with_reducible refine n_add ?_ | with_reducible refine n_sub ?_ | with_reducible refine n_gt ?_ | with_reducible refine n_ge ?_ | with_reducible refine n_lt ?_ | with_reducible refine n_le ?_ | with_reducible refine e_var (by with_unfolding_all rfl) ?_ | with_reducible refine e_ixc (by with_unfolding_all rfl) ?_ | with_reducible refine e_callM (by with_unfolding_all rfl) ?_ | with_reducible refine s_frz (by with_unfolding_all rfl) ?_ | with_reducible refine s_app (by with_unfolding_all rfl) ?_ | with_reducible refine few_and (by first | decide | (simp only [List.length_cons, List.length_nil, Nat.reduceAdd, Nat.reduceLeDiff])) ?_ | refine Or.inl ⟨by first | with_reducible rfl | with_reducible exact Bool.not_false, ?_⟩ | refine Or.inr ⟨by first | with_reducible rfl | with_reducible exact Bool.not_true, ?_⟩ | refine Exists.intro _ (Exists.intro _ ⟨rfl, rfl, gd rfl ?_⟩) | refine Exists.intro _ ⟨rfl, ?_⟩)
    refine gd (a := .int (-6)) rfl ?_
    repeat (first | with_reducible refine s_seq ?_ | with_reducible refine s_if ?_ | with_reducible refine s_set ?_ | with_reducible refine s_setIx ?_ | with_reducible refine s_ret ?_ | with_reducible refine s_nil ?_ | with_reducible refine s_own ?_ | with_reducible refine s_par ?_ | with_reducible refine t_tst ?_ | with_reducible refine t_and ?_ | with_reducible refine t_or ?_ | with_reducible refine t_not ?_ | with_reducible refine t_yes ?_ | with_reducible refine e_op ?_ | with_reducible refine e_un ?_ | with_reducible refine e_chain ?_ | with_reducible refine e_b ?_ | with_reducible refine e_c ?_ | with_reducible refine e_l ?_ | with_reducible refine e_tup ?_ | with_reducible refine e_call ?_ | with_reducible refine e_and ?_ | with_reducible refine e_or ?_ | with_reducible refine e_not ?_ | with_reducible refine e_if ?_ | with_reducible refine e_sl ?_ | with_reducible refine o_n ?_ | with_reducible refine o_s ?_ | with_reducible refine a_nil ?_ | with_reducible refine a_cons ?_ | with_reducible refine f_lst ?_ | with_reducible refine f_call ?_ | with_reducible refine f_itA ?_ | with_reducible refine f_r1 ?_ | with_reducible refine r_seq ?_ | with_reducible refine n_add ?_ | with_reducible refine n_sub ?_ | with_reducible refine n_gt ?_ | with_reducible refine n_ge ?_ | with_reducible refine n_lt ?_ | with_reducible refine n_le ?_ | with_reducible refine e_var (by with_unfolding_all rfl) ?_ | with_reducible refine e_ixc (by with_unfolding_all rfl) ?_ | with_reducible refine e_callM (by with_unfolding_all rfl) ?_ | with_reducible refine s_frz (by with_unfolding_all rfl) ?_ | with_reducible refine s_app (by with_unfolding_all rfl) ?_ | with_reducible refine few_and (by first | decide | (simp only [List.length_cons, List.length_nil, Nat.reduceAdd, Nat.reduceLeDiff])) ?_ | refine Or.inl ⟨by first | with_reducible rfl | with_reducible exact Bool.not_false, ?_⟩ | refine Or.inr ⟨by first | with_reducible rfl | with_reducible exact Bool.not_true, ?_⟩ | refine Exists.intro _ (Exists.intro _ ⟨rfl, rfl, gd rfl ?_⟩) | refine Exists.intro _ ⟨rfl, ?_⟩)
    refine gd (a := .int (-4)) rfl ?_
    repeat (first | with_reducible refine s_seq ?_ | with_reducible refine s_if ?_ | with_reducible refine s_set ?_ | with_reducible refine s_setIx ?_ | with_reducible refine s_ret ?_ | with_reducible refine s_nil ?_ | with_reducible refine s_own ?_ | with_reducible refine s_par ?_ | with_reducible refine t_tst ?_ | with_reducible refine t_and ?_ | with_reducible refine t_or ?_ | with_reducible refine t_not ?_ | with_reducible refine t_yes ?_ | with_reducible refine e_op ?_ | with_reducible refine e_un ?_ | with_reducible refine e_chain ?_ | with_reducible refine e_b ?_ | with_reducible refine e_c ?_ | with_reducible refine e_l ?_ | with_reducible refine e_tup ?_ | with_reducible refine e_call ?_ | with_reducible refine e_and ?_ | with_reducible refine e_or ?_ | with_reducible refine e_not ?_ | with_reducible refine e_if ?_ | with_reducible refine e_sl ?_ | with_reducible refine o_n ?_ | with_reducible refine o_s ?_ | with_reducible refine a_nil ?_ | with_reducible refine a_cons ?_ | with_reducible refine f_lst ?_ | with_reducible refine f_call ?_ | with_reducible refine f_itA ?_ | with_reducible refine f_r1 ?_ | with_reducible refine r_seq ?_ | with_reducible refine n_add ?_ | with_reducible refine n_sub ?_ | with_reducible refine n_gt ?_ | with_reducible refine n_ge ?_ | with_reducible refine n_lt ?_ | with_reducible refine n_le ?_ | with_reducible refine e_var (by with_unfolding_all rfl) ?_ | with_reducible refine e_ixc (by with_unfolding_all rfl) ?_ | with_reducible refine e_callM (by with_unfolding_all rfl) ?_ | with_reducible refine s_frz (by with_unfolding_all rfl) ?_ | with_reducible refine s_app (by with_unfolding_all rfl) ?_ | with_reducible refine few_and (by first | decide | (simp only [List.length_cons, List.length_nil, Nat.reduceAdd, Nat.reduceLeDiff])) ?_ | refine Or.inl ⟨by first | with_reducible rfl | with_reducible exact Bool.not_false, ?_⟩ | refine Or.inr ⟨by first | with_reducible rfl | with_reducible exact Bool.not_true, ?_⟩ | refine Exists.intro _ (Exists.intro _ ⟨rfl, rfl, gd rfl ?_⟩) | refine Exists.intro _ ⟨rfl, ?_⟩)
    refine gd_mono (fraction_ok (p := -6) (q := -4) (by decide) (by decide)) fun d hd => ?_
    have e1 : F (-6) (-4) = .tuple [.int 3, .int 2] := by
      have a : (-6 : Int).fdiv (G (-6) (-4)) = 3 := by decide +kernel
      have b : (-4 : Int).fdiv (G (-6) (-4)) = 2 := by decide +kernel
      unfold F
      rw [a, b]
    rw [e1] at hd
    subst hd
    repeat (first | with_reducible refine s_seq ?_ | with_reducible refine s_if ?_ | with_reducible refine s_set ?_ | with_reducible refine s_setIx ?_ | with_reducible refine s_ret ?_ | with_reducible refine s_nil ?_ | with_reducible refine s_own ?_ | with_reducible refine s_par ?_ | with_reducible refine t_tst ?_ | with_reducible refine t_and ?_ | with_reducible refine t_or ?_ | with_reducible refine t_not ?_ | with_reducible refine t_yes ?_ | with_reducible refine e_op ?_ | with_reducible refine e_un ?_ | with_reducible refine e_chain ?_ | with_reducible refine e_b ?_ | with_reducible refine e_c ?_ | with_reducible refine e_l ?_ | with_reducible refine e_tup ?_ | with_reducible refine e_call ?_ | with_reducible refine e_and ?_ | with_reducible refine e_or ?_ | with_reducible refine e_not ?_ | with_reducible refine e_if ?_ | with_reducible refine e_sl ?_ | with_reducible refine o_n ?_ | with_reducible refine o_s ?_ | with_reducible refine a_nil ?_ | with_reducible refine a_cons ?_ | with_reducible refine f_lst ?_ | with_reducible refine f_call ?_ | with_reducible refine f_itA ?_ | with_reducible refine f_r1 ?_ | with_reducible refine r_seq ?_ | with_reducible refine n_add ?_ | with_reducible refine n_sub ?_ | with_reducible refine n_gt ?_ | with_reducible refine n_ge ?_ | with_reducible refine n_lt ?_ | with_reducible refine n_le ?_ | with_reducible refine e_var (by with_unfolding_all rfl) ?_ | with_reducible refine e_ixc (by with_unfolding_all rfl) ?_ | with_reducible refine e_callM (by with_unfolding_all rfl) ?_ | with_reducible refine s_frz (by with_unfolding_all rfl) ?_ | with_reducible refine s_app (by with_unfolding_all rfl) ?_ | with_reducible refine few_and (by first | decide | (simp only [List.length_cons, List.length_nil, Nat.reduceAdd, Nat.reduceLeDiff])) ?_ | refine Or.inl ⟨by first | with_reducible rfl | with_reducible exact Bool.not_false, ?_⟩ | refine Or.inr ⟨by first | with_reducible rfl | with_reducible exact Bool.not_true, ?_⟩ | refine Exists.intro _ (Exists.intro _ ⟨rfl, rfl, gd rfl ?_⟩) | refine Exists.intro _ ⟨rfl, ?_⟩)
    refine gd (a := .bool true) rfl ?_
    repeat (first | with_reducible refine s_seq ?_ | with_reducible refine s_if ?_ | with_reducible refine s_set ?_ | with_reducible refine s_setIx ?_ | with_reducible refine s_ret ?_ | with_reducible refine s_nil ?_ | with_reducible refine s_own ?_ | with_reducible refine s_par ?_ | with_reducible refine t_tst ?_ | with_reducible refine t_and ?_ | with_reducible refine t_or ?_ | with_reducible refine t_not ?_ | with_reducible refine t_yes ?_ | with_reducible refine e_op ?_ | with_reducible refine e_un ?_ | with_reducible refine e_chain ?_ | with_reducible refine e_b ?_ | with_reducible refine e_c ?_ | with_reducible refine e_l ?_ | with_reducible refine e_tup ?_ | with_reducible refine e_call ?_ | with_reducible refine e_and ?_ | with_reducible refine e_or ?_ | with_reducible refine e_not ?_ | with_reducible refine e_if ?_ | with_reducible refine e_sl ?_ | with_reducible refine o_n ?_ | with_reducible refine o_s ?_ | with_reducible refine a_nil ?_ | with_reducible refine a_cons ?_ | with_reducible refine f_lst ?_ | with_reducible refine f_call ?_ | with_reducible refine f_itA ?_ | with_reducible refine f_r1 ?_ | with_reducible refine r_seq ?_ | with_reducible refine n_add ?_ | with_reducible refine n_sub ?_ | with_reducible refine n_gt ?_ | with_reducible refine n_ge ?_ | with_reducible refine n_lt ?_ | with_reducible refine n_le ?_ | with_reducible refine e_var (by with_unfolding_all rfl) ?_ | with_reducible refine e_ixc (by with_unfolding_all rfl) ?_ | with_reducible refine e_callM (by with_unfolding_all rfl) ?_ | with_reducible refine s_frz (by with_unfolding_all rfl) ?_ | with_reducible refine s_app (by with_unfolding_all rfl) ?_ | with_reducible refine few_and (by first | decide | (simp only [List.length_cons, List.length_nil, Nat.reduceAdd, Nat.reduceLeDiff])) ?_ | refine Or.inl ⟨by first | with_reducible rfl | with_reducible exact Bool.not_false, ?_⟩ | refine Or.inr ⟨by first | with_reducible rfl | with_reducible exact Bool.not_true, ?_⟩ | refine Exists.intro _ (Exists.intro _ ⟨rfl, rfl, gd rfl ?_⟩) | refine Exists.intro _ ⟨rfl, ?_⟩)
    rfl
theorem law_true (ns : List Int) (h : ns.length ≤ 63) : m_law [.dict [(.none, .list (ns.map .int))]] = some (.bool true) := by
  obtain ⟨r, e, q⟩ := law_ok ns h
  subst q
  exact e
end K57

namespace K57
open PySem PySem.Spec PyProof.Rows L2 Dl
def fn_ : List He.DefD := [dOf "is_whole" s_is_whole, dOf "is_fraction" s_is_fraction, dOf "fraction" s_fraction, dOf "_law_pot" s__law_pot, dOf "_law_take" s__law_take, dOf "_law_fraction" s__law_fraction, dOf "_law_whole" s__law_whole, dOf "_law_is_fraction" s__law_is_fraction, dOf "_law_number" s__law_number, dOf "_law_odd" s__law_odd, dOf "law" s_law]
def fa_ : List He.Fa := [.glo "is_whole", .glo "is_fraction", .glo "fraction", .glo "_law_pot", .glo "_law_take", .glo "_law_fraction", .glo "_law_whole", .glo "_law_is_fraction", .glo "_law_number", .glo "_law_odd", .glo "law", .free "abs", .free "bool", .free "int", .free "isinstance", .free "len", .free "max", .free "min", .free "range", .free "repr", .free "tuple"]
def cs_ : List (Str × PyData) := []
def names_0 : List Str := [("is_whole" : Str), ("is_fraction" : Str), ("fraction" : Str), ("_law_pot" : Str), ("_law_take" : Str), ("_law_fraction" : Str), ("_law_plus" : Str), ("_law_total" : Str), ("_law_whole" : Str), ("_law_is_fraction" : Str), ("_law_number" : Str), ("_law_odd" : Str)]
def names_ : List Str := names_0
abbrev R_ : PySem.W.OpenRow := PySem.W.OpenLaw.row PySem.Challenge.rw_askround_k57_fractions
def bs_ : List (Str × String) := [("gcd", "math.gcd")]
def ck_ (K : PySem.W.Frag) : Bool := cs_.all (gcB K) && bs_.all (bnB K)
abbrev hk_ : PySem.W.Hook := hookC 4 fa_ fn_ ck_
def ob_ (s : PySem.W.SharedT) : Bool × He.AlD := obsC 4 fa_ fn_ ck_ (HandSHeadRun.getT s)
theorem ob_eq (s : PySem.W.SharedT) : ob_ s = hk_.obs s.abs := obsC_eq (HandSHeadRun.getT_eq s)
theorem run_ (w : World) : HandSHeadRun.RunEqI R_ (PySem.W.view R_.prog [0, 16]) hk_ ob_ 4000 names_ w := by
  show _ = _
  kernel_rfl
theorem facts_ (w : World) (mg : Str → Option Value) (h : Heap) (K : PySem.W.Frag) (X : K.In h) (G : h.Ns mainGlobals mg) (c : He.SaysD fa_ fn_ K) (cc0 : ck_ K = true) : ∃ (f : Addr) (fd : FuncData), mg "law" = some (.ref f) ∧ Fun K "law" "law" s_law f fd ∧ (∀ (s : Shared) (u : Value), BindsTo s fd ⟨[u], []⟩ [("_law_script", u)]) ∧
      ∀ (base : Heap) (cdv : Value) (s : Shared) (H : Hp) (Z : Par), Mod K mg base → Room 3 (callerA.deeper (envOfC "law" (defScope s_law) s.heap.objs.size f cdv)) → CG (cxOf CX0 R_.prog w K mg base ["_law_script", "_law_k", "_law_pot_here", "_law_turn", "_law_p", "_law_q", "_law_by", "_law_told", "_law_thing", "_law_found"] "law" (defScope s_law) f cdv callerA [] s H E0).nox →
        PSs (cxOf CX0 R_.prog w K mg base ["_law_script", "_law_k", "_law_pot_here", "_law_turn", "_law_p", "_law_q", "_law_by", "_law_told", "_law_thing", "_law_found"] "law" (defScope s_law) f cdv callerA [] s H E0).nox (defBody s_law) (lfS K Z b_law) := by
  have cc := (Bool.and_eq_true_iff.mp cc0).1
  have bb := (Bool.and_eq_true_iff.mp cc0).2
  have T : Tx K mg := ⟨free_of X G c 11, free_of X G c 12, free_of X G c 13, free_of X G c 14, free_of X G c 15, free_of X G c 16, free_of X G c 17, free_of X G c 18, free_of X G c 19, free_of X G c 20, bn_of X G bb 0⟩
  have F_is_whole : Std K mg "is_whole" s_is_whole ["thing"] := std_of X G c 0 0 rfl rfl (fun _ _ _ _ _ _ us hl => match us, hl with | [_], _ => rfl)
  have F_is_fraction : Std K mg "is_fraction" s_is_fraction ["thing"] := std_of X G c 1 1 rfl rfl (fun _ _ _ _ _ _ us hl => match us, hl with | [_], _ => rfl)
  have F_fraction : Std K mg "fraction" s_fraction ["p", "q"] := std_of X G c 2 2 rfl rfl (fun _ _ _ _ _ _ us hl => match us, hl with | [_, _], _ => rfl)
  have F__law_pot : Std K mg "_law_pot" s__law_pot ["_law_script", "_law_k"] := std_of X G c 3 3 rfl rfl (fun _ _ _ _ _ _ us hl => match us, hl with | [_, _], _ => rfl)
  have F__law_take : Std K mg "_law_take" s__law_take ["_law_pot_here", "_law_many"] := std_of X G c 4 4 rfl rfl (fun _ _ _ _ _ _ us hl => match us, hl with | [_, _], _ => rfl)
  have F__law_fraction : Std K mg "_law_fraction" s__law_fraction ["_law_p", "_law_q"] := std_of X G c 5 5 rfl rfl (fun _ _ _ _ _ _ us hl => match us, hl with | [_, _], _ => rfl)
  have F__law_whole : Std K mg "_law_whole" s__law_whole ["_law_thing"] := std_of X G c 6 6 rfl rfl (fun _ _ _ _ _ _ us hl => match us, hl with | [_], _ => rfl)
  have F__law_is_fraction : Std K mg "_law_is_fraction" s__law_is_fraction ["_law_thing"] := std_of X G c 7 7 rfl rfl (fun _ _ _ _ _ _ us hl => match us, hl with | [_], _ => rfl)
  have F__law_number : Std K mg "_law_number" s__law_number ["_law_pot_here"] := std_of X G c 8 8 rfl rfl (fun _ _ _ _ _ _ us hl => match us, hl with | [_], _ => rfl)
  have F__law_odd : Std K mg "_law_odd" s__law_odd ["_law_pot_here", "_law_told"] := std_of X G c 9 9 rfl rfl (fun _ _ _ _ _ _ us hl => match us, hl with | [_, _], _ => rfl)
  have F_law : Std K mg "law" s_law ["_law_script"] := std_of X G c 10 10 rfl rfl (fun _ _ _ _ _ _ us hl => match us, hl with | [_], _ => rfl)
  obtain ⟨f, fd, F, m, b⟩ := F_law
  have bt : ∀ (s : Shared) (u : Value), BindsTo s fd ⟨[u], []⟩ [("_law_script", u)] := fun s u => by
    obtain ⟨⟨_, _, _, _, _, _, _, _, _, e, _⟩, _⟩ := F
    subst e
    exact .of_eq rfl
  refine ⟨f, fd, m, F, bt, fun base cdv s H Z _ hr cg => ?_⟩
  have c_is_whole := ok_is_whole (P := R_.prog) (w := w) (base := base) F_is_whole  T 
  have c_is_fraction := ok_is_fraction (P := R_.prog) (w := w) (base := base) F_is_fraction  T c_is_whole
  have c_fraction := ok_fraction (P := R_.prog) (w := w) (base := base) F_fraction  T 
  have c__law_pot := ok__law_pot (P := R_.prog) (w := w) (base := base) F__law_pot  T 
  have c__law_take := ok__law_take (P := R_.prog) (w := w) (base := base) F__law_take  T 
  have c__law_fraction := ok__law_fraction (P := R_.prog) (w := w) (base := base) F__law_fraction  T 
  have c__law_whole := ok__law_whole (P := R_.prog) (w := w) (base := base) F__law_whole  T 
  have c__law_is_fraction := ok__law_is_fraction (P := R_.prog) (w := w) (base := base) F__law_is_fraction  T c__law_whole c__law_fraction
  have c__law_number := ok__law_number (P := R_.prog) (w := w) (base := base) F__law_number  T c__law_take
  have c__law_odd := ok__law_odd (P := R_.prog) (w := w) (base := base) F__law_odd  T c__law_take
  exact ok_law T c__law_pot c__law_number c__law_take c_fraction c_is_fraction c__law_fraction c__law_odd c__law_is_fraction f cdv callerA [] s H E0 Z hr cg
end K57
open PySem PySem.W PySem.Calls PyProof.Rows
theorem PySem.Challenge.cw_askround_k57_fractions_holds : PySem.Challenge.rw_askround_k57_fractions.Holds := by
  w_on; o_law
  refine HandSHeadRun.head_imp (r := K57.R_) (q := view K57.R_.prog [0, 16]) (H := K57.hk_) (ob := K57.ob_) (M := 4000) (loose := K57.names_) (d := HandSHeadRun.topDef K57.R_.prog 16) (kwd := []) K57.ob_eq
    K57.run_ (by kernel_rfl) (by kernel_rfl) (by kernel_rfl) (by rfl) (by first | assumption | decide +kernel) (by decide +kernel) ⟨rfl, rfl, rfl, rfl, rfl, by decide +kernel⟩ ?hw ?hc
  case hw => w_witness2
  case hc =>
    exact Dl.walk_dataC (l := PySem.Challenge.rw_askround_k57_fractions) (n := 63) (k := 3) (x := "law") rfl (by decide) (by kernel_rfl) (by kernel_rfl) (by kernel_rfl) ⟨rfl, by decide, by decide⟩ K57.sc_law (fun w mg h K X G c cc => K57.facts_ w mg h K X G c cc) K57.law_true
