import PyProof.Rows.All
import HandS.ForMost
import HandS.IsInst
import HandS.Wide
import HandS.WideMore
import HandS.TupAny
import HandS.Style
import HandS.Deep
import HandS.Flow
import HandS.SetKeys
import HandS.Steps
import HandS.ForExc
import HandS.HeadHook1
import HandS.Lambda
import PyProof.EqKinds
import HandS.Strs
import KE.KEqNest
import PyProof.ReprRoads
import PyProof.ReprReads
import HandS.SetFor
import HandS.Ends
import HandS.TupLe
import HandS.HeadEnd
import HandS.HeadHook2
import HandS.HeadNt
import HandS.Head0
import HandS.Head1
import HandS.Head2
import HandS.Gcd
import HandS.Head3
import HandS.ExcIs
import HandS.HeadHook4
import HandS.FStr
import HandS.Star
import HandS.RaiseMore
import HandS.TupMul
import HandS.TryOnly
import HandS.Defaults
import HandS.MakeKw
import KE.KDictDisplayH
import PySem.Challenge.RW_askround_k07_what_holds
import PyProof.ReprLen
set_option Elab.async false
set_option linter.all false
set_option maxRecDepth 100000
set_option maxHeartbeats 4000000
/-! ### A layer of plain data: what a body does, told as a partial function over trees of data -/
namespace Dl
open PySem PySem.Spec PyProof.Rows L2

def kD : Key → PyData
  | .inl i => .int i
  | .inr x => .str x

/-- no key of a dict: no whole number in it -/
def keyless (ds : List PyData) : Bool := ds.all fun d => match d with
  | .int _ => false
  | _ => true
/-- the entries of a dict whose keys are tuples; ahead of them stands (.none, .none) -/
def kvD (ds : List (List Key × PyData)) : List (PyData × PyData) := ds.map fun p => (.tuple (p.1.map kD), p.2)
/-- an exception of the class of that name (a class of the program's own, without fields), as a tree -/
def excD (c : Str) : PyData := .dict [(.none, .str c)]
def ExZ (C a : Addr) : HO := .ext fun h => ∃ oe : Obj, h.get? a = some oe ∧ Zc (.ref C) none oe ∧ ∃ vs : Array Value, oe.data = .fields vs
mutual
/-- the value v stands for the tree d; nothing of it may be written (mu: what may be) -/
inductive Dt (K : PySem.W.Frag) (mu : Addr → Prop) (H : Hp) : V → PyData → Prop
  | non : Dt K mu H .non .none
  | bl (b : Bool) : Dt K mu H (.bl b) (.bool b)
  | int (i : Int) : Dt K mu H (.int i) (.int i)
  | str (x : Str) : Dt K mu H (.str x) (.str x)
  | lst {a : Addr} {xs : List V} {ds : List PyData} : Rd H a (.lst xs) → ¬ mu a → DtAll K mu H xs ds → Dt K mu H (.ref a) (.list ds)
  | scr {a : Addr} {xs : List V} {ds : List PyData} : (Rd H a (.lst xs) ∧ ¬ mu a) ∨ (∀ H', SqL K H' a xs) → DtAll K mu H xs ds → Dt K mu H (.ref a) (.dict [(.none, .list ds)])
  | tup {a : Addr} {xs : List V} {ds : List PyData} : H a = some (.tup xs) → ¬ mu a → DtAll K mu H xs ds → Dt K mu H (.ref a) (.tuple ds)
  | tupK {a : Addr} {xs : List V} {ds : List PyData} : (∀ H', SqT K H' a xs) → keyless ds = true → DtAll K mu H xs ds → Dt K mu H (.ref a) (.tuple ds)
  | dct {a : Addr} {kvs : List (Key × V)} {ds : List (PyData × PyData)} : H a = some (.dK kvs) → ¬ mu a → DtKv K mu H kvs ds → Dt K mu H (.ref a) (.dict ds)
  | dcT {a : Addr} {kvs : List (List Key × V)} {ds : List (List Key × PyData)} : H a = some (.dT kvs) → ¬ mu a → DtKT K mu H kvs ds → Dt K mu H (.ref a) (.dict ((.none, .none) :: kvD ds))
  | exc {a : Addr} {c : Str} : H a = some (ExZ (He.ga K c) a) → ¬ mu a → Dt K mu H (.ref a) (.dict [(.none, .str c)])
inductive DtAll (K : PySem.W.Frag) (mu : Addr → Prop) (H : Hp) : List V → List PyData → Prop
  | nil : DtAll K mu H [] []
  | cons {v : V} {vs : List V} {d : PyData} {ds : List PyData} : Dt K mu H v d → DtAll K mu H vs ds → DtAll K mu H (v :: vs) (d :: ds)
inductive DtKv (K : PySem.W.Frag) (mu : Addr → Prop) (H : Hp) : List (Key × V) → List (PyData × PyData) → Prop
  | nil : DtKv K mu H [] []
  | cons {k : Key} {v : V} {vs : List (Key × V)} {d : PyData} {ds : List (PyData × PyData)} : Dt K mu H v d → DtKv K mu H vs ds → DtKv K mu H ((k, v) :: vs) ((kD k, d) :: ds)
inductive DtKT (K : PySem.W.Frag) (mu : Addr → Prop) (H : Hp) : List (List Key × V) → List (List Key × PyData) → Prop
  | nil : DtKT K mu H [] []
  | cons {k : List Key} {v : V} {vs : List (List Key × V)} {d : PyData} {ds : List (List Key × PyData)} : Dt K mu H v d → DtKT K mu H vs ds → DtKT K mu H ((k, v) :: vs) ((k, d) :: ds)
end

/-- what stood and could not be written stands, and can not be written -/
def Kp (mu : Addr → Prop) (H : Hp) (mu' : Addr → Prop) (H' : Hp) : Prop := ∀ a o, H a = some o → ¬ mu a → H' a = some o ∧ ¬ mu' a
theorem Kp.refl (mu : Addr → Prop) (H : Hp) : Kp mu H mu H := fun _ _ h n => ⟨h, n⟩
theorem Kp.trans {m1 m2 m3 : Addr → Prop} {H1 H2 H3 : Hp} (a : Kp m1 H1 m2 H2) (b : Kp m2 H2 m3 H3) : Kp m1 H1 m3 H3 := fun x o h n =>
  let ⟨h2, n2⟩ := a x o h n
  b x o h2 n2
theorem Kp.rd {m1 m2 : Addr → Prop} {H1 H2 : Hp} (k : Kp m1 H1 m2 H2) {a : Addr} {u : HO} (h : Rd H1 a u) (n : ¬ m1 a) : Rd H2 a u ∧ ¬ m2 a := by
  rcases h with h | ⟨o, h⟩
  · exact ⟨.inl (k a _ h n).1, (k a _ h n).2⟩
  · exact ⟨.inr ⟨o, (k a _ h n).1⟩, (k a _ h n).2⟩

section
variable {K : PySem.W.Frag} {mu mu' : Addr → Prop} {H H' : Hp}
mutual
theorem Dt.mono (k : Kp mu H mu' H') : ∀ {v : V} {d : PyData}, Dt K mu H v d → Dt K mu' H' v d
  | _, _, .non => .non
  | _, _, .bl b => .bl b
  | _, _, .int i => .int i
  | _, _, .str x => .str x
  | _, _, .lst h n t => .lst (k.rd h n).1 (k.rd h n).2 (DtAll.mono k t)
  | _, _, .scr h t => .scr (h.elim (fun z => .inl ⟨(k.rd z.1 z.2).1, (k.rd z.1 z.2).2⟩) .inr) (DtAll.mono k t)
  | _, _, .tup h n t => .tup (k _ _ h n).1 (k _ _ h n).2 (DtAll.mono k t)
  | _, _, .tupK h z t => .tupK h z (DtAll.mono k t)
  | _, _, .dcT h n t => .dcT (k _ _ h n).1 (k _ _ h n).2 (DtKT.mono k t)
  | _, _, .dct h n t => .dct (k _ _ h n).1 (k _ _ h n).2 (DtKv.mono k t)
  | _, _, .exc h n => .exc (k _ _ h n).1 (k _ _ h n).2
theorem DtAll.mono (k : Kp mu H mu' H') : ∀ {vs : List V} {ds : List PyData}, DtAll K mu H vs ds → DtAll K mu' H' vs ds
  | _, _, .nil => .nil
  | _, _, .cons h t => .cons (Dt.mono k h) (DtAll.mono k t)
theorem DtKv.mono (k : Kp mu H mu' H') : ∀ {vs : List (Key × V)} {ds : List (PyData × PyData)}, DtKv K mu H vs ds → DtKv K mu' H' vs ds
  | _, _, .nil => .nil
  | _, _, .cons h t => .cons (Dt.mono k h) (DtKv.mono k t)
theorem DtKT.mono (k : Kp mu H mu' H') : ∀ {vs : List (List Key × V)} {ds : List (List Key × PyData)}, DtKT K mu H vs ds → DtKT K mu' H' vs ds
  | _, _, .nil => .nil
  | _, _, .cons h t => .cons (Dt.mono k h) (DtKT.mono k t)
end
theorem DtAll.len : ∀ {vs : List V} {ds : List PyData}, DtAll K mu H vs ds → vs.length = ds.length
  | _, _, .nil => rfl
  | _, _, .cons _ t => by rw [List.length_cons, List.length_cons, DtAll.len t]
theorem DtAll.get : ∀ {vs : List V} {ds : List PyData} {i : Nat} {d : PyData}, DtAll K mu H vs ds → ds[i]? = some d → ∃ v, vs[i]? = some v ∧ Dt K mu H v d
  | _, _, _, _, .nil, e => by simp at e
  | _, _, 0, _, .cons h _, e => by simp at e; subst e; exact ⟨_, rfl, h⟩
  | _, _, i + 1, _, .cons _ t, e => by
    obtain ⟨v, h1, h2⟩ := DtAll.get (i := i) t (by simpa using e)
    exact ⟨v, by simpa using h1, h2⟩
theorem DtAll.getv : ∀ {vs : List V} {ds : List PyData} {i : Nat} {v : V}, DtAll K mu H vs ds → vs[i]? = some v → ∃ d, ds[i]? = some d ∧ Dt K mu H v d
  | _, _, _, _, .nil, e => by simp at e
  | _, _, 0, _, .cons h _, e => by simp at e; subst e; exact ⟨_, rfl, h⟩
  | _, _, i + 1, _, .cons _ t, e => by
    obtain ⟨v, h1, h2⟩ := DtAll.getv (i := i) t (by simpa using e)
    exact ⟨v, by simpa using h1, h2⟩
theorem DtAll.append : ∀ {vs ws : List V} {ds es : List PyData}, DtAll K mu H vs ds → DtAll K mu H ws es → DtAll K mu H (vs ++ ws) (ds ++ es)
  | _, _, _, _, .nil, h => h
  | _, _, _, _, .cons h t, k => .cons h (DtAll.append t k)
theorem DtAll.take : ∀ {vs : List V} {ds : List PyData} (n : Nat), DtAll K mu H vs ds → DtAll K mu H (vs.take n) (ds.take n)
  | _, _, 0, _ => by simp; exact .nil
  | _, _, n + 1, .nil => .nil
  | _, _, n + 1, .cons h t => .cons h (DtAll.take n t)
theorem DtAll.drop : ∀ {vs : List V} {ds : List PyData} (n : Nat), DtAll K mu H vs ds → DtAll K mu H (vs.drop n) (ds.drop n)
  | _, _, 0, h => h
  | _, _, n + 1, .nil => .nil
  | _, _, n + 1, .cons h t => DtAll.drop n t
theorem DtAll.rev : ∀ {vs : List V} {ds : List PyData}, DtAll K mu H vs ds → DtAll K mu H vs.reverse ds.reverse
  | _, _, .nil => .nil
  | _, _, .cons h t => by
    rw [List.reverse_cons, List.reverse_cons]
    exact DtAll.append (DtAll.rev t) (.cons h .nil)
theorem DtAll.set {v : V} {d : PyData} (h : Dt K mu H v d) : ∀ {vs : List V} {ds : List PyData} (n : Nat), DtAll K mu H vs ds → DtAll K mu H (vs.set n v) (ds.set n d)
  | _, _, _, .nil => .nil
  | _, _, 0, .cons _ t => .cons h t
  | _, _, n + 1, .cons g t => .cons g (DtAll.set h n t)
theorem Dt.list {v : V} {ds : List PyData} (h : Dt K mu H v (.list ds)) : ∃ a xs, v = .ref a ∧ SqL K H a xs ∧ DtAll K mu H xs ds := by
  cases h with
  | lst h n t => exact ⟨_, _, rfl, .inl h, t⟩
theorem Dt.listR {v : V} {ds : List PyData} (h : Dt K mu H v (.list ds)) : ∃ a xs, v = .ref a ∧ Rd H a (.lst xs) ∧ DtAll K mu H xs ds := by
  cases h with
  | lst h n t => exact ⟨_, _, rfl, h, t⟩
theorem kD_none (k : Key) : kD k ≠ .none := by cases k <;> intro h <;> cases h
/-- the script -/
theorem Dt.script {v : V} {ds : List PyData} (h : Dt K mu H v (.dict [(.none, .list ds)])) : ∃ a xs, v = .ref a ∧ SqL K H a xs ∧ DtAll K mu H xs ds := by
  generalize e : PyData.dict [(.none, .list ds)] = d at h
  cases h with
  | scr h t =>
    cases e
    exact ⟨_, _, rfl, h.elim (fun z => .inl z.1) fun z => z H, t⟩
  | dct h n t =>
    cases e
    generalize e2 : [(PyData.none, PyData.list ds)] = kds at t
    cases t with
    | nil => cases e2
    | @cons k v vs d ds t1 t2 =>
      exact absurd (Prod.mk.inj (List.cons.inj e2).1).1.symm (kD_none k)
  | _ => cases e
/-- a dict that is one -/
def realD : List (PyData × PyData) → Bool
  | (.none, _) :: _ => false
  | _ => true
theorem Dt.real {v : V} {kvs : List (PyData × PyData)} (h : Dt K mu H v (.dict kvs)) (r : realD kvs = true) : ∃ a xs, v = .ref a ∧ H a = some (.dK xs) ∧ DtKv K mu H xs kvs := by
  cases h with
  | scr h t => cases r
  | dct h n t => exact ⟨_, _, rfl, h, t⟩
  | dcT h n t => cases r
  | exc h n => cases r
theorem Dt.tuple {v : V} {ds : List PyData} (h : Dt K mu H v (.tuple ds)) : ∃ a xs, v = .ref a ∧ SqT K H a xs ∧ DtAll K mu H xs ds := by
  cases h with
  | tup h n t => exact ⟨_, _, rfl, .inl (.inl h), t⟩
  | tupK h z t => exact ⟨_, _, rfl, h H, t⟩
theorem Dt.inti {v : V} {i : Int} (h : Dt K mu H v (.int i)) : v = .int i := by cases h; rfl
theorem Dt.bool {v : V} {b : Bool} (h : Dt K mu H v (.bool b)) : v = .bl b := by cases h; rfl
theorem Dt.text {v : V} {x : Str} (h : Dt K mu H v (.str x)) : v = .str x := by cases h; rfl
theorem Dt.none_ {v : V} (h : Dt K mu H v .none) : v = .non := by cases h; rfl
theorem DtAll.ints : ∀ {vs : List V} {ns : List Int}, DtAll K mu H vs (ns.map .int) → vs = ns.map V.int
  | _, [], .nil => rfl
  | _, n :: r, .cons h t => by
    have e := h.inti
    have e2 := DtAll.ints t
    subst e e2
    rfl
theorem DtAll.texts : ∀ {vs : List V} {ns : List Str}, DtAll K mu H vs (ns.map .str) → vs = ns.map V.str
  | _, [], .nil => rfl
  | _, n :: r, .cons h t => by
    have e := h.text
    have e2 := DtAll.texts t
    subst e e2
    rfl
theorem DtAll.bools : ∀ {vs : List V} {ns : List Bool}, DtAll K mu H vs (ns.map .bool) → vs = ns.map V.bl
  | _, [], .nil => rfl
  | _, n :: r, .cons h t => by
    have e := h.bool
    have e2 := DtAll.bools t
    subst e e2
    rfl
theorem dtAll_ints : ∀ ns : List Int, DtAll K mu H (ns.map V.int) (ns.map .int)
  | [] => .nil
  | n :: r => .cons (.int n) (dtAll_ints r)
theorem dtAll_texts : ∀ ns : List Str, DtAll K mu H (ns.map V.str) (ns.map .str)
  | [] => .nil
  | n :: r => .cons (.str n) (dtAll_texts r)
theorem dtAll_bools : ∀ ns : List Bool, DtAll K mu H (ns.map V.bl) (ns.map .bool)
  | [] => .nil
  | n :: r => .cons (.bl n) (dtAll_bools r)
end

/-! ### a body's names: data, a list of its own that it fills, the list that was handed in to be changed, nothing -/
/-- what a dict of one's own holds: keys that are tuples; keys that are numbers and texts -/
inductive Ct where
  | kT (ds : List (List Key × PyData)) | kK (ds : List (PyData × PyData))
def CtOk (K : PySem.W.Frag) (mu : Addr → Prop) (H : Hp) (a : Addr) : Ct → Prop
  | .kT ds => ∃ kvs, H a = some (.dT kvs) ∧ DtKT K mu H kvs ds
  | .kK ds => ∃ kvs, H a = some (.dK kvs) ∧ DtKv K mu H kvs ds
theorem CtOk.mono {K : PySem.W.Frag} {mu mu' : Addr → Prop} {H H' : Hp} {a : Addr} {c : Ct} (h : CtOk K mu H a c) (k : Kp mu H mu' H') (s : ∀ o, H a = some o → H' a = some o) : CtOk K mu' H' a c := by
  cases c with
  | kT ds =>
    obtain ⟨kvs, e, t⟩ := h
    exact ⟨kvs, s _ e, t.mono k⟩
  | kK ds =>
    obtain ⟨kvs, e, t⟩ := h
    exact ⟨kvs, s _ e, t.mono k⟩
theorem CtOk.there {K : PySem.W.Frag} {mu : Addr → Prop} {H : Hp} {a : Addr} {c : Ct} (h : CtOk K mu H a c) : ∃ o, H a = some o ∧ ∀ xs, o ≠ .lst xs := by
  cases c with
  | kT ds =>
    obtain ⟨kvs, e, t⟩ := h
    exact ⟨_, e, fun xs z => by cases z⟩
  | kK ds =>
    obtain ⟨kvs, e, t⟩ := h
    exact ⟨_, e, fun xs z => by cases z⟩
inductive SV where
  | dat (d : PyData) | own (ds : List PyData) | pot (ds : List PyData) | no | tab (q : Str) | dic (c : Ct)
abbrev Sl := List SV
/-- what is fixed through a body: the heap at its entry, the address of the list that may be changed -/
structure Par where
  H0 : Hp
  p : Option Addr
  m0 : Addr → Prop
def Mu (Z : Par) (M : List Addr) : Addr → Prop := fun a => Z.m0 a ∨ Z.p = some a ∨ a ∈ M

/-- .. through an expression or a statement: all that stood stands, but the list handed in and the names' own -/
def Kq (Z : Par) (M : List Addr) (H : Hp) (M' : List Addr) (H' : Hp) : Prop := ∀ a o, H a = some o → Z.p ≠ some a → a ∉ M → H' a = some o ∧ a ∉ M'
theorem Kq.kp {Z : Par} {M M' : List Addr} {H H' : Hp} (k : Kq Z M H M' H') : Kp (Mu Z M) H (Mu Z M') H' := fun a o h n =>
  let ⟨h1, h2⟩ := k a o h (fun z => n (.inr (.inl z))) (fun z => n (.inr (.inr z)))
  ⟨h1, fun q => q.elim (fun z => n (.inl z)) fun q => q.elim (fun z => n (.inr (.inl z))) h2⟩
theorem Kq.refl (Z : Par) (M : List Addr) (H : Hp) : Kq Z M H M H := fun _ _ h _ n => ⟨h, n⟩
theorem Kq.trans {Z : Par} {M1 M2 M3 : List Addr} {H1 H2 H3 : Hp} (a : Kq Z M1 H1 M2 H2) (b : Kq Z M2 H2 M3 H3) : Kq Z M1 H1 M3 H3 := fun x o h p n =>
  let ⟨h2, n2⟩ := a x o h p n
  b x o h2 p n2
theorem kq_grow {Z : Par} {M : List Addr} {H H' : Hp} (g : ∀ a o, H a = some o → H' a = some o) : Kq Z M H M H' := fun a o e _ n => ⟨g a o e, n⟩

inductive SlAll (K : PySem.W.Frag) (mu : Addr → Prop) (p : Option Addr) (H : Hp) : L2.St → Sl → List Addr → Prop
  | nil : SlAll K mu p H [] [] []
  | dat {v : V} {d : PyData} {σ : L2.St} {s : Sl} {M : List Addr} : Dt K mu H v d → SlAll K mu p H σ s M → SlAll K mu p H (some v :: σ) (.dat d :: s) M
  | no {x : Option V} {σ : L2.St} {s : Sl} {M : List Addr} : SlAll K mu p H σ s M → SlAll K mu p H (x :: σ) (.no :: s) M
  | own {a : Addr} {xs : List V} {ds : List PyData} {σ : L2.St} {s : Sl} {M : List Addr} : H a = some (.lst xs) → DtAll K mu H xs ds → a ∉ M → SlAll K mu p H σ s M → SlAll K mu p H (some (.ref a) :: σ) (.own ds :: s) (a :: M)
  | pot {a : Addr} {xs : List V} {ds : List PyData} {σ : L2.St} {s : Sl} {M : List Addr} : p = some a → H a = some (.lst xs) → DtAll K mu H xs ds → SlAll K mu p H σ s M → SlAll K mu p H (some (.ref a) :: σ) (.pot ds :: s) M
  | tab {x : Option V} {a : Addr} {ps : Array Value} {q : Str} {σ : L2.St} {s : Sl} {M : List Addr} : p = some a → H a = some (.tbl ps) → TriplesOk ps.toList → (∀ (pos : Pos) (cv : Value), codeAmong pos ps.toList = some cv → ∃ c, cv = .ref c ∧ H c = some (LamX.CodeO c q) ∧ ¬ mu c) → SlAll K mu p H σ s M → SlAll K mu p H (x :: σ) (.tab q :: s) M
  | dic {a : Addr} {c : Ct} {σ : L2.St} {s : Sl} {M : List Addr} : CtOk K mu H a c → a ∉ M → SlAll K mu p H σ s M → SlAll K mu p H (some (.ref a) :: σ) (.dic c :: s) (a :: M)

structure Rel (K : PySem.W.Frag) (Z : Par) (M : List Addr) (σ : L2.St) (H : Hp) (s : Sl) : Prop where
  base : ∀ a o, Z.H0 a = some o → Z.p ≠ some a → H a = some o
  fr : ∀ a ∈ M, Z.H0 a = none ∧ Z.p ≠ some a ∧ ¬ Z.m0 a ∧ ∃ o, H a = some o
  mz : ∀ a, Z.m0 a → ∃ o, H a = some o
  pt : ∀ a, Z.p = some a → ∃ o, H a = some o
  sl : SlAll K (Mu Z M) Z.p H σ s M

section
variable {K : PySem.W.Frag} {mu mu' : Addr → Prop} {H H' : Hp} {p : Option Addr} {Z : Par} {M M' : List Addr} {σ : L2.St} {s : Sl}
theorem Rel.muT (r : Rel K Z M σ H s) : ∀ a, Mu Z M a → ∃ o, H a = some o := fun a h => by
  rcases h with h | h | h
  · exact r.mz a h
  · exact r.pt a h
  · exact (r.fr a h).2.2.2
theorem SlAll.grow (g : ∀ a o, H a = some o → H' a = some o) : ∀ {σ : L2.St} {s : Sl} {M : List Addr}, SlAll K mu p H σ s M → SlAll K mu p H' σ s M
  | _, _, _, .nil => .nil
  | _, _, _, .dat h t => .dat (h.mono fun a o e n => ⟨g a o e, n⟩) (SlAll.grow g t)
  | _, _, _, .no t => .no (SlAll.grow g t)
  | _, _, _, .own h d n t => .own (g _ _ h) (d.mono fun a o e n => ⟨g a o e, n⟩) n (SlAll.grow g t)
  | _, _, _, .pot e h d t => .pot e (g _ _ h) (d.mono fun a o e n => ⟨g a o e, n⟩) (SlAll.grow g t)
  | _, _, _, .tab e h d f t => .tab e (g _ _ h) d (fun pos cv z => let ⟨c, h1, h2, h3⟩ := f pos cv z; ⟨c, h1, g _ _ h2, h3⟩) (SlAll.grow g t)
  | _, _, _, .dic h n t => .dic (h.mono (fun a o e n => ⟨g a o e, n⟩) (g _)) n (SlAll.grow g t)
theorem Rel.grow (r : Rel K Z M σ H s) (g : ∀ a o, H a = some o → H' a = some o) : Rel K Z M σ H' s :=
  ⟨fun a o h n => g a o (r.base a o h n), fun a h => ⟨(r.fr a h).1, (r.fr a h).2.1, (r.fr a h).2.2.1, let ⟨o, e⟩ := (r.fr a h).2.2.2; ⟨o, g a o e⟩⟩, fun a h => let ⟨o, e⟩ := r.mz a h; ⟨o, g a o e⟩, fun a h => let ⟨o, e⟩ := r.pt a h; ⟨o, g a o e⟩, r.sl.grow g⟩
theorem kp_grow (g : ∀ a o, H a = some o → H' a = some o) : Kp mu H mu H' := fun a o e n => ⟨g a o e, n⟩
theorem SlAll.len : ∀ {σ : L2.St} {s : Sl} {M : List Addr}, SlAll K mu p H σ s M → σ.length = s.length
  | _, _, _, .nil => rfl
  | _, _, _, .dat h t => by simp [SlAll.len t]
  | _, _, _, .no t => by simp [SlAll.len t]
  | _, _, _, .own h d n t => by simp [SlAll.len t]
  | _, _, _, .pot e h d t => by simp [SlAll.len t]
  | _, _, _, .tab e h d f t => by simp [SlAll.len t]
  | _, _, _, .dic h n t => by simp [SlAll.len t]
theorem SlAll.get : ∀ {σ : L2.St} {s : Sl} {M : List Addr} {i : Nat} {d : PyData}, SlAll K mu p H σ s M → s[i]? = some (.dat d) → ∃ v, σ[i]? = some (some v) ∧ Dt K mu H v d
  | _, _, _, _, _, .nil, e => by simp at e
  | _, _, _, 0, _, .dat h t, e => by simp at e; subst e; exact ⟨_, rfl, h⟩
  | _, _, _, 0, _, .no t, e => by simp at e
  | _, _, _, 0, _, .own .., e => by simp at e
  | _, _, _, 0, _, .pot .., e => by simp at e
  | _, _, _, i + 1, _, .dat h t, e => by simpa using SlAll.get (i := i) t (by simpa using e)
  | _, _, _, i + 1, _, .no t, e => by simpa using SlAll.get (i := i) t (by simpa using e)
  | _, _, _, i + 1, _, .own _ _ _ t, e => by simpa using SlAll.get (i := i) t (by simpa using e)
  | _, _, _, i + 1, _, .pot _ _ _ t, e => by simpa using SlAll.get (i := i) t (by simpa using e)
  | _, _, _, 0, _, .tab .., e => by simp at e
  | _, _, _, i + 1, _, .tab _ _ _ _ t, e => by simpa using SlAll.get (i := i) t (by simpa using e)
  | _, _, _, 0, _, .dic .., e => by simp at e
  | _, _, _, i + 1, _, .dic _ _ t, e => by simpa using SlAll.get (i := i) t (by simpa using e)
theorem SlAll.getPot : ∀ {σ : L2.St} {s : Sl} {M : List Addr} {i : Nat} {ds : List PyData}, SlAll K mu p H σ s M → s[i]? = some (.pot ds) → ∃ a xs, σ[i]? = some (some (.ref a)) ∧ p = some a ∧ H a = some (.lst xs) ∧ DtAll K mu H xs ds
  | _, _, _, _, _, .nil, e => by simp at e
  | _, _, _, 0, _, .dat h t, e => by simp at e
  | _, _, _, 0, _, .no t, e => by simp at e
  | _, _, _, 0, _, .own .., e => by simp at e
  | _, _, _, 0, _, .pot h1 h2 h3 t, e => by simp at e; subst e; exact ⟨_, _, rfl, h1, h2, h3⟩
  | _, _, _, i + 1, _, .dat h t, e => by simpa using SlAll.getPot (i := i) t (by simpa using e)
  | _, _, _, i + 1, _, .no t, e => by simpa using SlAll.getPot (i := i) t (by simpa using e)
  | _, _, _, i + 1, _, .own _ _ _ t, e => by simpa using SlAll.getPot (i := i) t (by simpa using e)
  | _, _, _, i + 1, _, .pot _ _ _ t, e => by simpa using SlAll.getPot (i := i) t (by simpa using e)
  | _, _, _, 0, _, .tab .., e => by simp at e
  | _, _, _, i + 1, _, .tab _ _ _ _ t, e => by simpa using SlAll.getPot (i := i) t (by simpa using e)
  | _, _, _, 0, _, .dic .., e => by simp at e
  | _, _, _, i + 1, _, .dic _ _ t, e => by simpa using SlAll.getPot (i := i) t (by simpa using e)
theorem SlAll.getOwn : ∀ {σ : L2.St} {s : Sl} {M : List Addr} {i : Nat} {ds : List PyData}, SlAll K mu p H σ s M → s[i]? = some (.own ds) → ∃ a xs, σ[i]? = some (some (.ref a)) ∧ a ∈ M ∧ H a = some (.lst xs) ∧ DtAll K mu H xs ds
  | _, _, _, _, _, .nil, e => by simp at e
  | _, _, _, 0, _, .dat h t, e => by simp at e
  | _, _, _, 0, _, .no t, e => by simp at e
  | _, _, _, 0, _, .own h2 h3 n t, e => by simp at e; subst e; exact ⟨_, _, rfl, List.mem_cons_self, h2, h3⟩
  | _, _, _, 0, _, .pot .., e => by simp at e
  | _, _, _, i + 1, _, .dat h t, e => by simpa using SlAll.getOwn (i := i) t (by simpa using e)
  | _, _, _, i + 1, _, .no t, e => by simpa using SlAll.getOwn (i := i) t (by simpa using e)
  | _, _, _, i + 1, _, .own _ _ _ t, e => by
    obtain ⟨a, xs, h1, h2, h3⟩ := SlAll.getOwn (i := i) t (by simpa using e)
    exact ⟨a, xs, by simpa using h1, List.mem_cons_of_mem _ h2, h3⟩
  | _, _, _, i + 1, _, .pot _ _ _ t, e => by simpa using SlAll.getOwn (i := i) t (by simpa using e)
  | _, _, _, 0, _, .tab .., e => by simp at e
  | _, _, _, i + 1, _, .tab _ _ _ _ t, e => by simpa using SlAll.getOwn (i := i) t (by simpa using e)
  | _, _, _, 0, _, .dic .., e => by simp at e
  | _, _, _, i + 1, _, .dic _ _ t, e => by
    obtain ⟨a, xs, h1, h2, h3⟩ := SlAll.getOwn (i := i) t (by simpa using e)
    exact ⟨a, xs, by simpa using h1, List.mem_cons_of_mem _ h2, h3⟩
theorem SlAll.getDic : ∀ {σ : L2.St} {s : Sl} {M : List Addr} {i : Nat} {c : Ct}, SlAll K mu p H σ s M → s[i]? = some (.dic c) → ∃ a, σ[i]? = some (some (.ref a)) ∧ a ∈ M ∧ CtOk K mu H a c
  | _, _, _, _, _, .nil, e => by simp at e
  | _, _, _, 0, _, .dat h t, e => by simp at e
  | _, _, _, 0, _, .no t, e => by simp at e
  | _, _, _, 0, _, .own .., e => by simp at e
  | _, _, _, 0, _, .pot .., e => by simp at e
  | _, _, _, 0, _, .tab .., e => by simp at e
  | _, _, _, 0, _, .dic h n t, e => by simp at e; subst e; exact ⟨_, rfl, List.mem_cons_self, h⟩
  | _, _, _, i + 1, _, .dat h t, e => by simpa using SlAll.getDic (i := i) t (by simpa using e)
  | _, _, _, i + 1, _, .no t, e => by simpa using SlAll.getDic (i := i) t (by simpa using e)
  | _, _, _, i + 1, _, .own _ _ _ t, e => by
    obtain ⟨a, h1, h2, h3⟩ := SlAll.getDic (i := i) t (by simpa using e)
    exact ⟨a, by simpa using h1, List.mem_cons_of_mem _ h2, h3⟩
  | _, _, _, i + 1, _, .pot _ _ _ t, e => by simpa using SlAll.getDic (i := i) t (by simpa using e)
  | _, _, _, i + 1, _, .tab _ _ _ _ t, e => by simpa using SlAll.getDic (i := i) t (by simpa using e)
  | _, _, _, i + 1, _, .dic _ _ t, e => by
    obtain ⟨a, h1, h2, h3⟩ := SlAll.getDic (i := i) t (by simpa using e)
    exact ⟨a, by simpa using h1, List.mem_cons_of_mem _ h2, h3⟩
/-- a wider or other set of what may be written, where what is read stays -/
theorem SlAll.kp (k : Kp mu H mu' H') (ho : ∀ a o, a ∈ M → H a = some o → H' a = some o) (hp : ∀ a o, p = some a → H a = some o → H' a = some o) : ∀ {σ : L2.St} {s : Sl} {M2 : List Addr}, (∀ a ∈ M2, a ∈ M) → SlAll K mu p H σ s M2 → SlAll K mu' p H' σ s M2
  | _, _, _, _, .nil => .nil
  | _, _, _, hs, .dat h t => .dat (h.mono k) (SlAll.kp k ho hp hs t)
  | _, _, _, hs, .no t => .no (SlAll.kp k ho hp hs t)
  | _, _, _, hs, .own h d n t => .own (ho _ _ (hs _ List.mem_cons_self) h) (d.mono k) n (SlAll.kp k ho hp (fun a h => hs a (List.mem_cons_of_mem _ h)) t)
  | _, _, _, hs, .pot e h d t => .pot e (hp _ _ e h) (d.mono k) (SlAll.kp k ho hp hs t)
  | _, _, _, hs, .tab e h d f t => .tab e (hp _ _ e h) d (fun pos cv z => let ⟨c, h1, h2, h3⟩ := f pos cv z; ⟨c, h1, (k _ _ h2 h3).1, (k _ _ h2 h3).2⟩) (SlAll.kp k ho hp hs t)
  | _, _, _, hs, .dic h n t => .dic (h.mono k fun o => ho _ o (hs _ List.mem_cons_self)) n (SlAll.kp k ho hp (fun a h => hs a (List.mem_cons_of_mem _ h)) t)
/-- a name is given data -/
theorem SlAll.setDat {v : V} {d : PyData} (hv : Dt K mu H v d) : ∀ {σ : L2.St} {s : Sl} {M : List Addr} (i : Nat), SlAll K mu p H σ s M → ∃ M', (∀ a ∈ M', a ∈ M) ∧ SlAll K mu p H (σ.set i (some v)) (s.set i (.dat d)) M'
  | _, _, _, _, .nil => ⟨[], fun _ h => h, .nil⟩
  | _, _, _, 0, .dat h t => ⟨_, fun _ h => h, .dat hv t⟩
  | _, _, _, 0, .no t => ⟨_, fun _ h => h, .dat hv t⟩
  | _, _, _, 0, .own h d n t => ⟨_, fun _ h => List.mem_cons_of_mem _ h, .dat hv t⟩
  | _, _, _, 0, .pot e h d t => ⟨_, fun _ h => h, .dat hv t⟩
  | _, _, _, 0, .tab e h d f t => ⟨_, fun _ h => h, .dat hv t⟩
  | _, _, _, i + 1, .dat h t => let ⟨M', a, b⟩ := SlAll.setDat hv i t; ⟨M', a, .dat h b⟩
  | _, _, _, i + 1, .no t => let ⟨M', a, b⟩ := SlAll.setDat hv i t; ⟨M', a, .no b⟩
  | _, _, _, i + 1, .own h d n t => let ⟨M', a, b⟩ := SlAll.setDat hv i t; ⟨_ :: M', fun c hc => by
      rcases List.mem_cons.mp hc with e | e
      · rw [e]; exact List.mem_cons_self
      · exact List.mem_cons_of_mem _ (a c e), .own h d (fun hc => n (a _ hc)) b⟩
  | _, _, _, i + 1, .pot e h d t => let ⟨M', a, b⟩ := SlAll.setDat hv i t; ⟨M', a, .pot e h d b⟩
  | _, _, _, i + 1, .tab e h d f t => let ⟨M', a, b⟩ := SlAll.setDat hv i t; ⟨M', a, .tab e h d f b⟩
  | _, _, _, 0, .dic h n t => ⟨_, fun _ h => List.mem_cons_of_mem _ h, .dat hv t⟩
  | _, _, _, i + 1, .dic h n t => let ⟨M', a, b⟩ := SlAll.setDat hv i t; ⟨_ :: M', fun c hc => by
      rcases List.mem_cons.mp hc with e | e
      · rw [e]; exact List.mem_cons_self
      · exact List.mem_cons_of_mem _ (a c e), .dic h (fun hc => n (a _ hc)) b⟩
theorem Rel.setDat {v : V} {d : PyData} (r : Rel K Z M σ H s) (hv : Dt K (Mu Z M) H v d) (i : Nat) : ∃ M', (∀ a ∈ M', a ∈ M) ∧ Rel K Z M' (σ.set i (some v)) H (s.set i (.dat d)) ∧ Kq Z M H M' H := by
  obtain ⟨M', h1, h2⟩ := r.sl.setDat hv i
  have k : Kp (Mu Z M) H (Mu Z M') H := fun a o e n => ⟨e, fun q => n (q.elim .inl fun z => .inr (z.elim .inl fun z => .inr (h1 a z)))⟩
  exact ⟨M', h1, ⟨r.base, fun a h => r.fr a (h1 a h), r.mz, r.pt, h2.kp k (M := M') (fun _ _ _ e => e) (fun _ _ _ e => e) (fun _ h => h)⟩, fun a o e _ n => ⟨e, fun z => n (h1 a z)⟩⟩
end
end Dl

namespace Dl
open PySem PySem.Spec PyProof.Rows L2

/-! ### meanings -/
abbrev DE := Sl → Option (PyData × Sl)
abbrev DT := Sl → Option (Bool × Sl)
abbrev DA := Sl → Option (List PyData × Sl)
inductive Fl where
  | nx (s : Sl) | rt (d : PyData) (s : Sl) | bk (s : Sl) | ct (s : Sl)
abbrev DS := Sl → Option Fl

def lft (K : PySem.W.Frag) (Z : Par) (f : DE) : TE := fun σ H Q => ∃ M s d s', Rel K Z M σ H s ∧ f s = some (d, s') ∧ ∀ v H', Kq Z M H M H' → Rel K Z M σ H' s' → Dt K (Mu Z M) H' v d → Q v H'
def lfT (K : PySem.W.Frag) (Z : Par) (f : DT) : TT := fun σ H Q => ∃ M s d s', Rel K Z M σ H s ∧ f s = some (d, s') ∧ ∀ H', Kq Z M H M H' → Rel K Z M σ H' s' → Q d H'
def lfA (K : PySem.W.Frag) (Z : Par) (f : DA) : TA := fun σ H Q => ∃ M s d s', Rel K Z M σ H s ∧ f s = some (d, s') ∧ ∀ vs H', Kq Z M H M H' → Rel K Z M σ H' s' → DtAll K (Mu Z M) H' vs d → Q vs H'
/-- what a statement leaves -/
def FlOk (K : PySem.W.Frag) (Z : Par) (M0 : List Addr) (H0 : Hp) (D : Ends) : Fl → Prop
  | .nx s => ∀ M σ H, Kq Z M0 H0 M H → Rel K Z M σ H s → D.nx σ H
  | .rt d s => ∀ M σ H v, Kq Z M0 H0 M H → Rel K Z M σ H s → Dt K (Mu Z M) H v d → D.rt v H
  | .bk s => ∀ M σ H, Kq Z M0 H0 M H → Rel K Z M σ H s → D.bk σ H
  | .ct s => ∀ M σ H, Kq Z M0 H0 M H → Rel K Z M σ H s → D.ct σ H
def lfS (K : PySem.W.Frag) (Z : Par) (f : DS) : TS := fun D σ H => ∃ M s fl, Rel K Z M σ H s ∧ f s = some fl ∧ FlOk K Z M H D fl

theorem PEimp {X : Cx} {e : Expr} {t t' : TE} (h : PE X e t) (i : ∀ σ H Q, t' σ H Q → t σ H Q) : PE X e t' := ⟨fun pins s σ H Q I q => h.run pins s σ H Q I (i σ H Q q)⟩
theorem PTimp {X : Cx} {e : Expr} {t t' : TT} (h : PT X e t) (i : ∀ σ H Q, t' σ H Q → t σ H Q) : PT X e t' := ⟨fun pins s σ H Q I q => h.run pins s σ H Q I (i σ H Q q)⟩
theorem PWimp {X : Cx} {e : Expr} {t t' : TT} (h : PW X e t) (i : ∀ σ H Q, t' σ H Q → t σ H Q) : PW X e t' := ⟨fun w pins s σ H Q I q => h.run w pins s σ H Q I (i σ H Q q)⟩
theorem PAimp {X : Cx} {e : List Expr} {t t' : TA} (h : PA X e t) (i : ∀ σ H Q, t' σ H Q → t σ H Q) : PA X e t' := ⟨fun pos pins s σ H Q I q => h.run pos pins s σ H Q I (i σ H Q q)⟩
theorem PSimp {X : Cx} {e : Stmt} {t t' : TS} (h : PS X e t) (i : ∀ D σ H, t' D σ H → t D σ H) : PS X e t' := ⟨fun pins s σ H D I q => h.run pins s σ H D I (i D σ H q)⟩
theorem PSsimp {X : Cx} {e : List Stmt} {t t' : TS} (h : PSs X e t) (i : ∀ D σ H, t' D σ H → t D σ H) : PSs X e t' := ⟨fun pins s σ H D I q => h.run pins s σ H D I (i D σ H q)⟩

/-! ### names, constants -/
def dVar (i : Nat) : DE := fun s => match s[i]? with
  | some (.dat d) => some (d, s)
  | _ => none
def dC (d : PyData) : DE := fun s => some (d, s)
theorem dVar_some {i : Nat} {s s' : Sl} {d : PyData} (h : dVar i s = some (d, s')) : s[i]? = some (.dat d) ∧ s' = s := by
  unfold dVar at h
  split at h
  · rename_i d' e
    simp only [Option.some.injEq, Prod.mk.injEq] at h
    obtain ⟨rfl, rfl⟩ := h
    exact ⟨e, rfl⟩
  · cases h

section
variable {X : Cx} {Z : Par} {a b e : Expr} {es : List Expr} {pos : Pos} {fa fb fc : DE}
theorem dv (i : Nat) {x : Str} {pos : Pos} (hN : X.N[i]? = some x := by rfl) (hv : Vis X.env.scope x := by first | exact Or.inl rfl | exact Or.inr (Or.inl rfl) | exact Or.inr (Or.inr rfl)) (hd : (x == ("__debug__" : Str)) = false := by decide)
    (hcd : (x == ("__classdict__" : Str)) = false := by decide) : PE X (.Name x pos) (lft X.K Z (dVar i)) := PEimp (pe_var hN hv hd hcd) fun σ H Q h => by
  obtain ⟨M, s, d, s', r, hf, k⟩ := h
  obtain ⟨e, rfl⟩ := dVar_some hf
  obtain ⟨v, h1, h2⟩ := r.sl.get e
  exact ⟨v, h1, k v H (Kq.refl _ _ _) r h2⟩
theorem lft_c {v : V} {d : PyData} (hv : ∀ mu H, Dt X.K mu H v d) {t : TE} (ht : t = tC v) (he : PE X e t) : PE X e (lft X.K Z (dC d)) := PEimp (by rw [ht] at he; exact he) fun σ H Q h => by
  obtain ⟨M, s, d', s', r, hf, k⟩ := h
  cases hf
  exact k v H (Kq.refl _ _ _) r (hv _ _)
theorem di {i : Int} {j pos} : PE X (.Constant (.int i) j pos) (lft X.K Z (dC (.int i))) := lft_c (fun _ _ => .int i) rfl pe_int
theorem ds {x : Str} {j pos} : PE X (.Constant (.str x) j pos) (lft X.K Z (dC (.str x))) := lft_c (fun _ _ => .str x) rfl pe_str
theorem db {b : Bool} {j pos} : PE X (.Constant (.bool b) j pos) (lft X.K Z (dC (.bool b))) := lft_c (fun _ _ => .bl b) rfl pe_bl
theorem dn {j pos} : PE X (.Constant .none j pos) (lft X.K Z (dC .none)) := lft_c (fun _ _ => .non) rfl pe_non
/-- a module's constant -/
theorem dg {x : Str} {v : V} {u : Value} {d : PyData} (hg : Gl X x) (hm : X.mg x = some u) (r : RelV v u) (hv : ∀ mu H, Dt X.K mu H v d) (hd : (x == ("__debug__" : Str)) = false := by decide) : PE X (.Name x pos) (lft X.K Z (dC d)) := lft_c hv rfl (pe_glob hg hm r hd)

/-! ### operators by trees -/
def dOp (g : PyData → PyData → Option PyData) (fa fb : DE) : DE := fun s => (fa s).bind fun p => (fb p.2).bind fun q => (g p.1 q.1).map fun d => (d, q.2)
def dUn (g : PyData → Option PyData) (fa : DE) : DE := fun s => (fa s).bind fun p => (g p.1).map fun d => (d, p.2)
theorem dOp_some {g : PyData → PyData → Option PyData} {s s' : Sl} {d : PyData} (h : dOp g fa fb s = some (d, s')) : ∃ d1 s1 d2, fa s = some (d1, s1) ∧ fb s1 = some (d2, s') ∧ g d1 d2 = some d := by
  unfold dOp at h
  simp only [Option.bind_eq_some_iff, Option.map_eq_some_iff] at h
  obtain ⟨⟨d1, s1⟩, h1, ⟨d2, s2⟩, h2, d', h3, h4⟩ := h
  cases h4
  exact ⟨d1, s1, d2, h1, h2, h3⟩
theorem dUn_some {g : PyData → Option PyData} {s s' : Sl} {d : PyData} (h : dUn g fa s = some (d, s')) : ∃ d1, fa s = some (d1, s') ∧ g d1 = some d := by
  unfold dUn at h
  simp only [Option.bind_eq_some_iff, Option.map_eq_some_iff] at h
  obtain ⟨⟨d1, s1⟩, h1, d', h3, h4⟩ := h
  cases h4
  exact ⟨d1, h1, h3⟩
/-- a rule by values does what g says of trees -/
def OpOk (K : PySem.W.Frag) (r : R2) (g : PyData → PyData → Option PyData) : Prop := ∀ (mu : Addr → Prop) (H : Hp) (x y : V) (d1 d2 d : PyData) (Q : VK), (∀ a, mu a → ∃ o, H a = some o) → Dt K mu H x d1 → Dt K mu H y d2 → g d1 d2 = some d →
  (∀ v H', (∀ a o, H a = some o → H' a = some o) → Dt K mu H' v d → Q v H') → r x y H Q
def UnOk (K : PySem.W.Frag) (r : V → Hp → VK → Prop) (g : PyData → Option PyData) : Prop := ∀ (mu : Addr → Prop) (H : Hp) (x : V) (d1 d : PyData) (Q : VK), (∀ a, mu a → ∃ o, H a = some o) → Dt K mu H x d1 → g d1 = some d →
  (∀ v H', (∀ a o, H a = some o → H' a = some o) → Dt K mu H' v d → Q v H') → r x H Q
def CallOk (K : PySem.W.Frag) (r : List V → Hp → VK → Prop) (g : List PyData → Option PyData) : Prop := ∀ (mu : Addr → Prop) (H : Hp) (xs : List V) (ds : List PyData) (d : PyData) (Q : VK), (∀ a, mu a → ∃ o, H a = some o) → DtAll K mu H xs ds → g ds = some d →
  (∀ v H', (∀ a o, H a = some o → H' a = some o) → Dt K mu H' v d → Q v H') → r xs H Q
theorem lift_op {r : R2} {g : PyData → PyData → Option PyData} (ok : OpOk X.K r g) {σ : L2.St} {H : Hp} {Q : VK} (h : lft X.K Z (dOp g fa fb) σ H Q) : tOp r (lft X.K Z fa) (lft X.K Z fb) σ H Q := by
  obtain ⟨M, s, d, s', rl, hf, k⟩ := h
  obtain ⟨d1, s1, d2, h1, h2, h3⟩ := dOp_some hf
  refine ⟨M, s, d1, s1, rl, h1, fun x H1 k1 r1 t1 => ⟨M, s1, d2, s', r1, h2, fun y H2 k2 r2 t2 => ?_⟩⟩
  refine ok (Mu Z M) H2 x y d1 d2 d Q r2.muT (t1.mono k2.kp) t2 h3 fun v H3 g3 t3 => ?_
  exact k v H3 (k1.trans (k2.trans (kq_grow g3))) (r2.grow g3) t3
theorem lift_un {r : V → Hp → VK → Prop} {g : PyData → Option PyData} (ok : UnOk X.K r g) {σ : L2.St} {H : Hp} {Q : VK} (h : lft X.K Z (dUn g fa) σ H Q) : tUn r (lft X.K Z fa) σ H Q := by
  obtain ⟨M, s, d, s', rl, hf, k⟩ := h
  obtain ⟨d1, h1, h3⟩ := dUn_some hf
  refine ⟨M, s, d1, s', rl, h1, fun x H1 k1 r1 t1 => ?_⟩
  refine ok (Mu Z M) H1 x d1 d Q r1.muT t1 h3 fun v H3 g3 t3 => ?_
  exact k v H3 (k1.trans (kq_grow g3)) (r1.grow g3) t3
theorem do_ {op : Operator} {r : R2} {g : PyData → PyData → Option PyData} (ho : OpR X (binaryOp op) r) (ok : OpOk X.K r g) (ha : PE X a (lft X.K Z fa)) (hb : PE X b (lft X.K Z fb)) : PE X (.BinOp a op b pos) (lft X.K Z (dOp g fa fb)) :=
  PEimp (pe_op ho ha hb) fun _ _ _ h => lift_op ok h
theorem du {op : UnaryOp} {r : V → Hp → VK → Prop} {g : PyData → Option PyData} (ho : UnR X (unaryOp op) r) (ok : UnOk X.K r g) (ha : PE X a (lft X.K Z fa)) : PE X (.UnaryOp op a pos) (lft X.K Z (dUn g fa)) :=
  PEimp (pe_un ho ha) fun _ _ _ h => lift_un ok h
theorem dcmp {op : CmpOp} {r : R2} {g : PyData → PyData → Option PyData} (ho : OpR X (compareOp op) r) (ok : OpOk X.K r g) (ha : PE X a (lft X.K Z fa)) (hb : PE X b (lft X.K Z fb)) (hm : behindInMarks op b = false) : PE X (.Compare a [op] [b] pos) (lft X.K Z (dOp g fa fb)) :=
  PEimp (pe_cmpR ho ha hb hm) fun _ _ _ h => lift_op ok h
theorem dix {r : R2} {g : PyData → PyData → Option PyData} (ho : IxR X r) (ok : OpOk X.K r g) (ha : PE X a (lft X.K Z fa)) (hb : PE X b (lft X.K Z fb)) (hs : PlainIx b := by exact fun _ _ => rfl) : PE X (.Subscript a b pos) (lft X.K Z (dOp g fa fb)) :=
  PEimp (pe_ix ho ha hb hs) fun _ _ _ h => lift_op ok h

/-! ### tests -/
def dTst (f : DE) : DT := fun s => (f s).bind fun p => match p.1 with
  | .bool b => some (b, p.2)
  | _ => none
theorem dTst_some {f : DE} {s s' : Sl} {b : Bool} (h : dTst f s = some (b, s')) : f s = some (.bool b, s') := by
  unfold dTst at h
  simp only [Option.bind_eq_some_iff] at h
  obtain ⟨⟨d1, s1⟩, h1, h2⟩ := h
  dsimp only at h2
  split at h2
  · cases h2; exact h1
  · cases h2
theorem lift_tB {f : DE} {σ : L2.St} {H : Hp} {Q : Bool → Hp → Prop} (h : lfT X.K Z (dTst f) σ H Q) : tB (lft X.K Z f) σ H Q := by
  obtain ⟨M, s, b, s', rl, hf, k⟩ := h
  exact ⟨M, s, .bool b, s', rl, dTst_some hf, fun v H' k1 r1 t1 => ⟨b, t1.bool, k H' k1 r1⟩⟩
/-- an expression that gives a bool, as a test -/
theorem dt (h : PE X e (lft X.K Z fa)) (he : ∀ whole, isTrue e X.env whole = (do let v ← whole; standAt e.pos; holding [v] (truthy v)) := by intro _; rfl) : PT X e (lfT X.K Z (dTst fa)) := PTimp (pt_val h he) fun _ _ _ h => lift_tB h
theorem dtcmp {op : CmpOp} {r : R2} {g : PyData → PyData → Option PyData} (ho : OpR X (compareOp op) r) (ok : OpOk X.K r g) (ha : PE X a (lft X.K Z fa)) (hb : PE X b (lft X.K Z fb)) (hm : behindInMarks op b = false) : PT X (.Compare a [op] [b] pos) (lfT X.K Z (dTst (dOp g fa fb))) :=
  PTimp (pt_cmpR ho ha hb hm) fun σ H Q h => by
    obtain ⟨M, s, b, s', rl, hf, k⟩ := h
    exact lift_op ok ⟨M, s, .bool b, s', rl, dTst_some hf, fun v H' k1 r1 t1 => ⟨b, t1.bool, k H' k1 r1⟩⟩
variable {ta tb : DT} {rest : List Expr}
def dAndT (f g : DT) : DT := fun s => (f s).bind fun p => if p.1 = true then g p.2 else some (false, p.2)
def dOrT (f g : DT) : DT := fun s => (f s).bind fun p => if p.1 = true then some (true, p.2) else g p.2
def dNotT (f : DT) : DT := fun s => (f s).map fun p => (!p.1, p.2)
theorem dtand (ha : PT X a (lfT X.K Z ta)) (hb : PW X (.BoolOp .And (b :: rest) pos) (lfT X.K Z tb)) : PW X (.BoolOp .And (a :: b :: rest) pos) (lfT X.K Z (dAndT ta tb)) := PWimp (pw_and ha hb) fun σ H Q h => by
  obtain ⟨M, s, c, s', rl, hf, k⟩ := h
  unfold dAndT at hf
  simp only [Option.bind_eq_some_iff] at hf
  obtain ⟨⟨c1, s1⟩, h1, h2⟩ := hf
  refine ⟨M, s, c1, s1, rl, h1, fun H1 k1 r1 => ?_⟩
  cases c1 with
  | true => exact ⟨M, s1, c, s', r1, h2, fun H2 k2 r2 => k H2 (k1.trans k2) r2⟩
  | false => cases h2; exact k H1 k1 r1
theorem dtor (ha : PT X a (lfT X.K Z ta)) (hb : PW X (.BoolOp .Or (b :: rest) pos) (lfT X.K Z tb)) : PW X (.BoolOp .Or (a :: b :: rest) pos) (lfT X.K Z (dOrT ta tb)) := PWimp (pw_or ha hb) fun σ H Q h => by
  obtain ⟨M, s, c, s', rl, hf, k⟩ := h
  unfold dOrT at hf
  simp only [Option.bind_eq_some_iff] at hf
  obtain ⟨⟨c1, s1⟩, h1, h2⟩ := hf
  refine ⟨M, s, c1, s1, rl, h1, fun H1 k1 r1 => ?_⟩
  cases c1 with
  | false => exact ⟨M, s1, c, s', r1, h2, fun H2 k2 r2 => k H2 (k1.trans k2) r2⟩
  | true => cases h2; exact k H1 k1 r1
theorem dtnot (ha : PT X a (lfT X.K Z ta)) : PT X (.UnaryOp .Not a pos) (lfT X.K Z (dNotT ta)) := PTimp (pt_not ha) fun σ H Q h => by
  obtain ⟨M, s, c, s', rl, hf, k⟩ := h
  unfold dNotT at hf
  simp only [Option.map_eq_some_iff] at hf
  obtain ⟨⟨c1, s1⟩, h1, h2⟩ := hf
  cases h2
  exact ⟨M, s, c1, s1, rl, h1, fun H1 k1 r1 => k H1 k1 r1⟩
/-! and, or, not as values; all but the last bools -/
def dAnd (f g : DE) : DE := fun s => (dTst f s).bind fun p => if p.1 = true then g p.2 else some (.bool false, p.2)
def dOr (f g : DE) : DE := fun s => (dTst f s).bind fun p => if p.1 = true then some (.bool true, p.2) else g p.2
def dNot (f : DE) : DE := fun s => (dTst f s).map fun p => (.bool (!p.1), p.2)
theorem dand (ha : PE X a (lft X.K Z fa)) (hb : PE X (.BoolOp .And (b :: rest) pos) (lft X.K Z fb)) : PE X (.BoolOp .And (a :: b :: rest) pos) (lft X.K Z (dAnd fa fb)) := PEimp (pe_and ha hb) fun σ H Q h => by
  obtain ⟨M, s, c, s', rl, hf, k⟩ := h
  unfold dAnd at hf
  simp only [Option.bind_eq_some_iff] at hf
  obtain ⟨⟨c1, s1⟩, h1, h2⟩ := hf
  refine ⟨M, s, .bool c1, s1, rl, dTst_some h1, fun v H1 k1 r1 t1 => ⟨c1, t1.bool, ?_⟩⟩
  cases c1 with
  | true => exact ⟨M, s1, c, s', r1, h2, fun v2 H2 k2 r2 t2 => k v2 H2 (k1.trans k2) r2 t2⟩
  | false => cases h2; exact k _ H1 k1 r1 (.bl false)
theorem dor (ha : PE X a (lft X.K Z fa)) (hb : PE X (.BoolOp .Or (b :: rest) pos) (lft X.K Z fb)) : PE X (.BoolOp .Or (a :: b :: rest) pos) (lft X.K Z (dOr fa fb)) := PEimp (pe_or ha hb) fun σ H Q h => by
  obtain ⟨M, s, c, s', rl, hf, k⟩ := h
  unfold dOr at hf
  simp only [Option.bind_eq_some_iff] at hf
  obtain ⟨⟨c1, s1⟩, h1, h2⟩ := hf
  refine ⟨M, s, .bool c1, s1, rl, dTst_some h1, fun v H1 k1 r1 t1 => ⟨c1, t1.bool, ?_⟩⟩
  cases c1 with
  | false => exact ⟨M, s1, c, s', r1, h2, fun v2 H2 k2 r2 t2 => k v2 H2 (k1.trans k2) r2 t2⟩
  | true => cases h2; exact k _ H1 k1 r1 (.bl true)
theorem dnot (ha : PE X a (lft X.K Z fa)) : PE X (.UnaryOp .Not a pos) (lft X.K Z (dNot fa)) := PEimp (pe_not ha) fun σ H Q h => by
  obtain ⟨M, s, c, s', rl, hf, k⟩ := h
  unfold dNot at hf
  simp only [Option.map_eq_some_iff] at hf
  obtain ⟨⟨c1, s1⟩, h1, h2⟩ := hf
  cases h2
  exact ⟨M, s, .bool c1, s1, rl, dTst_some h1, fun v H1 k1 r1 t1 => ⟨c1, t1.bool, k _ H1 k1 r1 (.bl _)⟩⟩
def dIf (t : DT) (f g : DE) : DE := fun s => (t s).bind fun p => if p.1 = true then f p.2 else g p.2
theorem dif_ {c : Expr} (hc : PT X c (lfT X.K Z ta)) (ha : PE X a (lft X.K Z fa)) (hb : PE X b (lft X.K Z fb)) : PE X (.IfExp c a b pos) (lft X.K Z (dIf ta fa fb)) := PEimp (pe_ifExp hc ha hb) fun σ H Q h => by
  obtain ⟨M, s, d, s', rl, hf, k⟩ := h
  unfold dIf at hf
  simp only [Option.bind_eq_some_iff] at hf
  obtain ⟨⟨c1, s1⟩, h1, h2⟩ := hf
  refine ⟨M, s, c1, s1, rl, h1, fun H1 k1 r1 => ?_⟩
  cases c1 with
  | false => exact ⟨M, s1, d, s', r1, h2, fun v2 H2 k2 r2 t2 => k v2 H2 (k1.trans k2) r2 t2⟩
  | true => exact ⟨M, s1, d, s', r1, h2, fun v2 H2 k2 r2 t2 => k v2 H2 (k1.trans k2) r2 t2⟩
/-- a op b op' c -/
def dChain (g g' : PyData → PyData → Option PyData) (fa fb fc : DE) : DE := fun s => (fa s).bind fun p => (fb p.2).bind fun q => (g p.1 q.1).bind fun c => match c with
  | .bool true => (fc q.2).bind fun w => (g' q.1 w.1).map fun d => (d, w.2)
  | .bool false => some (.bool false, q.2)
  | _ => none
theorem lift_chain {r r' : R2} {g g' : PyData → PyData → Option PyData} (ok : OpOk X.K r g) (ok' : OpOk X.K r' g') {σ : L2.St} {H : Hp} {Q : VK} (h : lft X.K Z (dChain g g' fa fb fc) σ H Q) : tChain r r' (lft X.K Z fa) (lft X.K Z fb) (lft X.K Z fc) σ H Q := by
  obtain ⟨M, s, d, s', rl, hf, k⟩ := h
  unfold dChain at hf
  simp only [Option.bind_eq_some_iff] at hf
  obtain ⟨⟨d1, s1⟩, h1, ⟨d2, s2⟩, h2, c, h3, h4⟩ := hf
  refine ⟨M, s, d1, s1, rl, h1, fun x H1 k1 r1 t1 => ⟨M, s1, d2, s2, r1, h2, fun y H2 k2 r2 t2 => ?_⟩⟩
  refine ok (Mu Z M) H2 x y d1 d2 c _ r2.muT (t1.mono k2.kp) t2 h3 fun v H3 g3 t3 => ?_
  have k3 : Kq Z M H2 M H3 := kq_grow g3
  split at h4
  · refine ⟨true, t3.bool, ?_⟩
    simp only [Option.bind_eq_some_iff, Option.map_eq_some_iff] at h4
    obtain ⟨⟨d3, s3⟩, h5, d4, h6, h7⟩ := h4
    cases h7
    refine iteT ⟨M, s2, d3, _, r2.grow g3, h5, fun z H4 k4 r4 t4 => ?_⟩
    refine ok' (Mu Z M) H4 y z d2 d3 _ Q r4.muT (t2.mono (k3.trans k4).kp) t4 h6 fun v H5 g5 t5 => ?_
    exact k v H5 (k1.trans (k2.trans (k3.trans (k4.trans (kq_grow g5))))) (r4.grow g5) t5
  · refine ⟨false, t3.bool, iteF ?_⟩
    cases h4
    exact k _ H3 (k1.trans (k2.trans k3)) (r2.grow g3) (.bl false)
  · cases h4
theorem dchain {op op' : CmpOp} {r r' : R2} {c : Expr} {g g' : PyData → PyData → Option PyData} (ho : OpR X (compareOp op) r) (ok : OpOk X.K r g) (ho' : OpR X (compareOp op') r') (ok' : OpOk X.K r' g') (ha : PE X a (lft X.K Z fa)) (hb : PE X b (lft X.K Z fb)) (hc : PE X c (lft X.K Z fc))
    (hm : lastMarks [op, op'] [b, c] = false := by with_unfolding_all rfl) : PE X (.Compare a [op, op'] [b, c] pos) (lft X.K Z (dChain g g' fa fb fc)) := PEimp (pe_chain ho ho' ha hb hc hm) fun _ _ _ h => lift_chain ok ok' h
theorem dtchain {op op' : CmpOp} {r r' : R2} {c : Expr} {g g' : PyData → PyData → Option PyData} (ho : OpR X (compareOp op) r) (ok : OpOk X.K r g) (ho' : OpR X (compareOp op') r') (ok' : OpOk X.K r' g') (ha : PE X a (lft X.K Z fa)) (hb : PE X b (lft X.K Z fb)) (hc : PE X c (lft X.K Z fc))
    (hm : lastMarks [op, op'] [b, c] = false := by with_unfolding_all rfl) : PT X (.Compare a [op, op'] [b, c] pos) (lfT X.K Z (dTst (dChain g g' fa fb fc))) := PTimp (pt_chain ho ho' ha hb hc hm) fun σ H Q h => by
  obtain ⟨M, s, b, s', rl, hf, k⟩ := h
  exact lift_chain ok ok' ⟨M, s, .bool b, s', rl, dTst_some hf, fun v H' k1 r1 t1 => ⟨b, t1.bool, k H' k1 r1⟩⟩

/-! ### arguments, displays, built-ins -/
def aNil : DA := fun s => some ([], s)
def aCons (f : DE) (g : DA) : DA := fun s => (f s).bind fun p => (g p.2).map fun q => (p.1 :: q.1, q.2)
theorem aCons_some {f : DE} {g : DA} {s s' : Sl} {ds : List PyData} (h : aCons f g s = some (ds, s')) : ∃ d s1 r, f s = some (d, s1) ∧ g s1 = some (r, s') ∧ ds = d :: r := by
  unfold aCons at h
  simp only [Option.bind_eq_some_iff, Option.map_eq_some_iff] at h
  obtain ⟨⟨d1, s1⟩, h1, ⟨r, s2⟩, h2, h3⟩ := h
  cases h3
  exact ⟨d1, s1, r, h1, h2, rfl⟩
variable {ga gb : DA}
theorem danil : PA X [] (lfA X.K Z aNil) := PAimp pa_nil fun σ H Q h => by
  obtain ⟨M, s, d, s', rl, hf, k⟩ := h
  cases hf
  exact k [] H (Kq.refl _ _ _) rl .nil
theorem dac (ha : PE X e (lft X.K Z fa)) (hb : PA X es (lfA X.K Z ga)) (hs : starEach (e :: es) X.env = (false, eval e X.env) :: starEach es X.env := by rfl) : PA X (e :: es) (lfA X.K Z (aCons fa ga)) := PAimp (pa_cons ha hb hs) fun σ H Q h => by
  obtain ⟨M, s, d, s', rl, hf, k⟩ := h
  obtain ⟨d1, s1, r, h1, h2, rfl⟩ := aCons_some hf
  exact ⟨M, s, d1, s1, rl, h1, fun v H1 k1 r1 t1 => ⟨M, s1, r, s', r1, h2, fun vs H2 k2 r2 t2 => k _ H2 (k1.trans k2) r2 (.cons (t1.mono k2.kp) t2)⟩⟩
def dTup (g : DA) : DE := fun s => (g s).bind fun p => if p.1.length ≤ sizeLine then some (.tuple p.1, p.2) else none
def dLst (g : DA) : DE := fun s => (g s).bind fun p => if p.1.length ≤ sizeLine then some (.list p.1, p.2) else none
def dB (g : List PyData → Option PyData) (f : DA) : DE := fun s => (f s).bind fun p => (g p.1).map fun d => (d, p.2)
theorem dTup_some {g : DA} {s s' : Sl} {d : PyData} (h : dTup g s = some (d, s')) : ∃ ds, g s = some (ds, s') ∧ ds.length ≤ sizeLine ∧ d = .tuple ds := by
  unfold dTup at h
  simp only [Option.bind_eq_some_iff] at h
  obtain ⟨⟨d1, s1⟩, h1, h2⟩ := h
  dsimp only at h2
  split at h2
  · cases h2; exact ⟨d1, h1, by assumption, rfl⟩
  · cases h2
theorem dLst_some {g : DA} {s s' : Sl} {d : PyData} (h : dLst g s = some (d, s')) : ∃ ds, g s = some (ds, s') ∧ ds.length ≤ sizeLine ∧ d = .list ds := by
  unfold dLst at h
  simp only [Option.bind_eq_some_iff] at h
  obtain ⟨⟨d1, s1⟩, h1, h2⟩ := h
  dsimp only at h2
  split at h2
  · cases h2; exact ⟨d1, h1, by assumption, rfl⟩
  · cases h2
theorem grow_new {H : Hp} {p : Addr} {o : HO} (h : H p = none) : ∀ a u, H a = some u → (upd H p o) a = some u := fun a u e => by
  rw [upd_ne (ne_of_none e h)]; exact e
theorem nomu_new {H : Hp} {mu : Addr → Prop} {p : Addr} (hm : ∀ a, mu a → ∃ o, H a = some o) (h : H p = none) : ¬ mu p := fun q => by
  obtain ⟨o, e⟩ := hm p q
  rw [h] at e; cases e
theorem dt_newT {K : PySem.W.Frag} {H : Hp} {mu : Addr → Prop} {p : Addr} {xs : List V} {ds : List PyData} (hm : ∀ a, mu a → ∃ o, H a = some o) (h : H p = none) (t : DtAll K mu H xs ds) : Dt K mu (upd H p (.tup xs)) (.ref p) (.tuple ds) :=
  .tup upd_same (nomu_new hm h) (t.mono (kp_grow (grow_new h)))
theorem dt_newL {K : PySem.W.Frag} {H : Hp} {mu : Addr → Prop} {p : Addr} {xs : List V} {ds : List PyData} (hm : ∀ a, mu a → ∃ o, H a = some o) (h : H p = none) (t : DtAll K mu H xs ds) : Dt K mu (upd H p (.lst xs)) (.ref p) (.list ds) :=
  .lst (.inl upd_same) (nomu_new hm h) (t.mono (kp_grow (grow_new h)))
theorem dtup {x1} (h : PA X es (lfA X.K Z ga)) : PE X (.Tuple es x1 pos) (lft X.K Z (dTup ga)) := PEimp (pe_tup h) fun σ H Q h => by
  obtain ⟨M, s, d, s', rl, hf, k⟩ := h
  obtain ⟨ds, h1, hz, rfl⟩ := dTup_some hf
  refine ⟨M, s, ds, s', rl, h1, fun vs H1 k1 r1 t1 => ⟨by rw [t1.len]; exact hz, fun p hp => ?_⟩⟩
  exact k _ _ (k1.trans (kq_grow (grow_new hp))) (r1.grow (grow_new hp)) (dt_newT r1.muT hp t1)
theorem dlst (h : PA X es (lfA X.K Z ga)) : PE X (.List es pos) (lft X.K Z (dLst ga)) := PEimp (pe_lst h) fun σ H Q h => by
  obtain ⟨M, s, d, s', rl, hf, k⟩ := h
  obtain ⟨ds, h1, hz, rfl⟩ := dLst_some hf
  refine ⟨M, s, ds, s', rl, h1, fun vs H1 k1 r1 t1 => ⟨by rw [t1.len]; exact hz, fun p hp => ?_⟩⟩
  exact k _ _ (k1.trans (kq_grow (grow_new hp))) (r1.grow (grow_new hp)) (dt_newL r1.muT hp t1)
theorem ddct : PE X (.Dict [] [] pos) (lft X.K Z (dC (.dict []))) := PEimp pe_dnewK fun σ H Q h => by
  obtain ⟨M, s, d, s', rl, hf, k⟩ := h
  cases hf
  intro p hp
  exact k _ _ (kq_grow (grow_new hp)) (rl.grow (grow_new hp)) (.dct upd_same (nomu_new rl.muT hp) .nil)
theorem lift_cb {r : List V → Hp → VK → Prop} {g : List PyData → Option PyData} (ok : CallOk X.K r g) {σ : L2.St} {H : Hp} {Q : VK} (h : lft X.K Z (dB g ga) σ H Q) : tCB r (lfA X.K Z ga) σ H Q := by
  obtain ⟨M, s, d, s', rl, hf, k⟩ := h
  unfold dB at hf
  simp only [Option.bind_eq_some_iff, Option.map_eq_some_iff] at hf
  obtain ⟨⟨ds, s1⟩, h1, d', h2, h3⟩ := hf
  cases h3
  refine ⟨M, s, ds, _, rl, h1, fun vs H1 k1 r1 t1 => ?_⟩
  exact ok (Mu Z M) H1 vs ds _ Q r1.muT t1 h2 fun v H3 g3 t3 => k v H3 (k1.trans (kq_grow g3)) (r1.grow g3) t3
theorem dcb {x : Str} {p : Pos} {id : String} {r : List V → Hp → VK → Prop} {g : List PyData → Option PyData} (hc : CallR X (.builtin id) r) (ok : CallOk X.K r g) (hg : Gl X x) (hm : X.mg x = none) (hv : bootBuiltins x = some (.builtin id)) (ha : PA X (e :: es) (lfA X.K Z ga)) (hn : x ≠ "__name__" := by decide)
    (hdb : (x == ("__debug__" : Str)) = false := by decide) (he : starEach (e :: es) X.env = (false, eval e X.env) :: starEach es X.env := by rfl) (hpl : (backTo pos (starEach es X.env)).any (·.1) = false := by rfl) : PE X (.Call (.Name x p) (e :: es) [] pos) (lft X.K Z (dB g ga)) :=
  PEimp (pe_callB hc hg hm hv ha hn hdb he hpl) fun _ _ _ h => lift_cb ok h
theorem dcty {x : Str} {p : Pos} {T : String} {r : List V → Hp → VK → Prop} {g : List PyData → Option PyData} (hc : CallR X (.type T) r) (ok : CallOk X.K r g) (hg : Gl X x) (hm : X.mg x = none) (hv : bootBuiltins x = some (.type T)) (ha : PA X (e :: es) (lfA X.K Z ga)) (hn : x ≠ "__name__" := by decide)
    (hdb : (x == ("__debug__" : Str)) = false := by decide) (he : starEach (e :: es) X.env = (false, eval e X.env) :: starEach es X.env := by rfl) (hpl : (backTo pos (starEach es X.env)).any (·.1) = false := by rfl) : PE X (.Call (.Name x p) (e :: es) [] pos) (lft X.K Z (dB g ga)) :=
  PEimp (pe_callTy hc hg hm hv ha hn hdb he hpl) fun _ _ _ h => lift_cb ok h
end
end Dl

namespace Dl
open PySem PySem.Spec PyProof.Rows L2

/-! ### protecting one more address -/
def Par.add (Z : Par) (p : Addr) : Par := { Z with m0 := fun a => Z.m0 a ∨ a = p }
section
variable {K : PySem.W.Frag} {Z : Par} {M M' : List Addr} {σ : L2.St} {H H' : Hp} {s s' : Sl} {p : Addr}
theorem mu_add {a : Addr} : Mu (Z.add p) M a ↔ Mu Z M a ∨ a = p := by
  unfold Mu Par.add
  constructor
  · rintro ((h | h) | h | h)
    · exact .inl (.inl h)
    · exact .inr h
    · exact .inl (.inr (.inl h))
    · exact .inl (.inr (.inr h))
  · rintro ((h | h | h) | h)
    · exact .inl (.inl h)
    · exact .inr (.inl h)
    · exact .inr (.inr h)
    · exact .inl (.inr h)
theorem mu_cons {a : Addr} : Mu Z (p :: M) a ↔ Mu Z M a ∨ a = p := by
  unfold Mu
  simp only [List.mem_cons]
  constructor
  · rintro (h | h | h | h)
    · exact .inl (.inl h)
    · exact .inl (.inr (.inl h))
    · exact .inr h
    · exact .inl (.inr (.inr h))
  · rintro ((h | h | h) | h)
    · exact .inl h
    · exact .inr (.inl h)
    · exact .inr (.inr (.inr h))
    · exact .inr (.inr (.inl h))
/-- a new object is laid and protected -/
theorem Rel.addNew (r : Rel K Z M σ H s) (hp : H p = none) (o : HO) : Rel K (Z.add p) M σ (upd H p o) s := by
  have g := grow_new (o := o) hp
  have k : Kp (Mu Z M) H (Mu (Z.add p) M) (upd H p o) := fun a u e n => ⟨g a u e, fun q => (mu_add.mp q).elim n (ne_of_none e hp)⟩
  refine ⟨fun a u e n => g a u (r.base a u e n), fun a h => ?_, fun a h => ?_, fun a h => let ⟨u, e⟩ := r.pt a h; ⟨u, g a u e⟩, ?_⟩
  · obtain ⟨h1, h2, h3, u, e⟩ := r.fr a h
    exact ⟨h1, h2, fun q => q.elim h3 (ne_of_none e hp), u, g a u e⟩
  · rcases h with h | h
    · obtain ⟨u, e⟩ := r.mz a h
      exact ⟨u, g a u e⟩
    · rw [h]; exact ⟨o, upd_same⟩
  · exact r.sl.kp k (M := M) (fun a xs _ e => g _ _ e) (fun a xs _ e => g _ _ e) (fun _ h => h)
theorem kp_addNew (hp : H p = none) (o : HO) : Kp (Mu Z M) H (Mu (Z.add p) M) (upd H p o) := fun a u e n => ⟨grow_new hp a u e, fun q => (mu_add.mp q).elim n (ne_of_none e hp)⟩
theorem kp_drop : Kp (Mu (Z.add p) M) H (Mu Z M) H := fun a u e n => ⟨e, fun q => n (mu_add.mpr (.inl q))⟩
theorem Rel.unadd (r : Rel K (Z.add p) M σ H s) : Rel K Z M σ H s :=
  ⟨r.base, fun a h => let ⟨h1, h2, h3, h4⟩ := r.fr a h; ⟨h1, h2, fun q => h3 (.inl q), h4⟩, fun a h => r.mz a (.inl h), r.pt, r.sl.kp kp_drop (M := M) (fun _ _ _ e => e) (fun _ _ _ e => e) (fun _ h => h)⟩
/-- the protected object is written -/
theorem Rel.wrAdd (r : Rel K (Z.add p) M σ H s) (hpp : Z.p ≠ some p) (o : HO) (h0 : Z.H0 p = none) : Rel K (Z.add p) M σ (upd H p o) s := by
  have mup : Mu (Z.add p) M p := .inl (.inr rfl)
  have k : Kp (Mu (Z.add p) M) H (Mu (Z.add p) M) (upd H p o) := fun a u e n => ⟨by
    have na : a ≠ p := fun z => n (by rw [z]; exact mup)
    rw [upd_ne na]; exact e, n⟩
  have ex : ∀ a u, H a = some u → ∃ w, (upd H p o) a = some w := fun a u e => by
    by_cases h : a = p
    · rw [h]; exact ⟨o, upd_same⟩
    · exact ⟨u, by rw [upd_ne h]; exact e⟩
  refine ⟨fun a u e n => ?_, fun a h => ?_, fun a h => let ⟨u, e⟩ := r.mz a h; ex a u e, fun a h => let ⟨u, e⟩ := r.pt a h; ex a u e, ?_⟩
  · have na : a ≠ p := ne_of_none e h0
    rw [upd_ne na]
    exact r.base a u e n
  · obtain ⟨h1, h2, h3, u, e⟩ := r.fr a h
    exact ⟨h1, h2, h3, ex a u e⟩
  · refine r.sl.kp k (M := M) (fun a xs hm e => ?_) (fun a xs hq e => ?_) (fun _ h => h)
    · have na : a ≠ p := fun z => (r.fr a hm).2.2.1 (.inr z)
      rw [upd_ne na]; exact e
    · have na : a ≠ p := fun z => hpp (z ▸ hq)
      rw [upd_ne na]; exact e
/-- a protected new list becomes a name's own -/
theorem SlAll.setOwn {mu : Addr → Prop} {q : Option Addr} {a : Addr} {xs : List V} {ds : List PyData} (h1 : H a = some (.lst xs)) (h2 : DtAll K mu H xs ds) {σ : L2.St} {s : Sl} {M : List Addr} (t : SlAll K mu q H σ s M) :
    ∀ (i : Nat), i < s.length → a ∉ M → ∃ M', (∀ b ∈ M', b ∈ M ∨ b = a) ∧ SlAll K mu q H (σ.set i (some (.ref a))) (s.set i (.own ds)) M' := by
  induction t with
  | nil => intro i hi _; exact absurd hi (Nat.not_lt_zero _)
  | dat h t ih =>
    intro i hi n
    cases i with
    | zero => exact ⟨_, fun b hb => (List.mem_cons.mp hb).elim .inr .inl, .own h1 h2 n t⟩
    | succ i =>
      obtain ⟨M', a1, b1⟩ := ih i (by simpa using hi) n
      exact ⟨M', a1, .dat h b1⟩
  | no t ih =>
    intro i hi n
    cases i with
    | zero => exact ⟨_, fun b hb => (List.mem_cons.mp hb).elim .inr .inl, .own h1 h2 n t⟩
    | succ i =>
      obtain ⟨M', a1, b1⟩ := ih i (by simpa using hi) n
      exact ⟨M', a1, .no b1⟩
  | pot e h d t ih =>
    intro i hi n
    cases i with
    | zero => exact ⟨_, fun b hb => (List.mem_cons.mp hb).elim .inr .inl, .own h1 h2 n t⟩
    | succ i =>
      obtain ⟨M', a1, b1⟩ := ih i (by simpa using hi) n
      exact ⟨M', a1, .pot e h d b1⟩
  | tab e h d f t ih =>
    intro i hi n
    cases i with
    | zero => exact ⟨_, fun b hb => (List.mem_cons.mp hb).elim .inr .inl, .own h1 h2 n t⟩
    | succ i =>
      obtain ⟨M', a1, b1⟩ := ih i (by simpa using hi) n
      exact ⟨M', a1, .tab e h d f b1⟩
  | @dic c ct σ s M h m t ih =>
    intro i hi n
    cases i with
    | zero => exact ⟨_, fun b hb => (List.mem_cons.mp hb).elim .inr fun z => .inl (List.mem_cons_of_mem _ z), .own h1 h2 (fun z => n (List.mem_cons_of_mem _ z)) t⟩
    | succ i =>
      obtain ⟨M', a1, b1⟩ := ih i (by simpa using hi) (fun z => n (List.mem_cons_of_mem _ z))
      refine ⟨c :: M', fun b hb => ?_, .dic h (fun z => (a1 _ z).elim m fun w => n (w ▸ List.mem_cons_self)) b1⟩
      rcases List.mem_cons.mp hb with z | z
      · exact .inl (z ▸ List.mem_cons_self)
      · exact (a1 b z).elim (fun w => .inl (List.mem_cons_of_mem _ w)) .inr
  | @own c ys es σ s M h d m t ih =>
    intro i hi n
    cases i with
    | zero => exact ⟨_, fun b hb => (List.mem_cons.mp hb).elim .inr fun z => .inl (List.mem_cons_of_mem _ z), .own h1 h2 (fun z => n (List.mem_cons_of_mem _ z)) t⟩
    | succ i =>
      obtain ⟨M', a1, b1⟩ := ih i (by simpa using hi) (fun z => n (List.mem_cons_of_mem _ z))
      refine ⟨c :: M', fun b hb => ?_, .own h d (fun z => (a1 _ z).elim m fun w => n (w ▸ List.mem_cons_self)) b1⟩
      rcases List.mem_cons.mp hb with z | z
      · exact .inl (z ▸ List.mem_cons_self)
      · exact (a1 b z).elim (fun w => .inl (List.mem_cons_of_mem _ w)) .inr
theorem kp_addCons : Kp (Mu (Z.add p) M) H (Mu Z (p :: M)) H := fun a u e n => ⟨e, fun q => n (mu_add.mpr (mu_cons.mp q))⟩
theorem Rel.own (r : Rel K (Z.add p) M σ H s) (h0 : Z.H0 p = none) (hpp : Z.p ≠ some p) (hm : ¬ Z.m0 p) {xs : List V} {ds : List PyData} (h1 : H p = some (.lst xs)) (h2 : DtAll K (Mu (Z.add p) M) H xs ds) (i : Nat) (hi : i < s.length) :
    ∃ M', Rel K Z M' (σ.set i (some (.ref p))) H (s.set i (.own ds)) ∧ ∀ c ∈ M', c ∈ M ∨ c = p := by
  have n : p ∉ M := fun z => (r.fr p z).2.2.1 (.inr rfl)
  obtain ⟨M', a, b⟩ := r.sl.setOwn h1 h2 i hi n
  have k : Kp (Mu (Z.add p) M) H (Mu Z M') H := fun c u e nn => ⟨e, fun q => nn (mu_add.mpr (by
    rcases q with q | q | q
    · exact .inl (.inl q)
    · exact .inl (.inr (.inl q))
    · exact (a c q).elim (fun w => .inl (.inr (.inr w))) .inr))⟩
  refine ⟨M', ⟨r.base, fun c hc => ?_, fun a h => r.mz a (.inl h), r.pt, b.kp k (M := M') (fun _ _ _ e => e) (fun _ _ _ e => e) (fun _ h => h)⟩, a⟩
  rcases a c hc with h | h
  · obtain ⟨h1, h2, h3, h4⟩ := r.fr c h
    exact ⟨h1, h2, fun q => h3 (.inl q), h4⟩
  · subst h
    exact ⟨h0, hpp, hm, _, h1⟩
end

/-! ### new lists -/
abbrev DF := Sl → Option (List PyData × Sl)
def lfF (K : PySem.W.Frag) (Z : Par) (f : DF) : TE := fun σ H Q => ∃ M s ds s', Rel K Z M σ H s ∧ f s = some (ds, s') ∧
  ∀ p xs H', H p = none → H' p = some (.lst xs) → Kq Z M H M H' → Rel K (Z.add p) M σ H' s' → DtAll K (Mu (Z.add p) M) H' xs ds → Q (.ref p) H'
def dL (f : DF) : DE := fun s => (f s).map fun p => (.list p.1, p.2)
def fLst (g : DA) : DF := fun s => (g s).bind fun p => if p.1.length ≤ sizeLine then some p else none
section
variable {X : Cx} {Z : Par} {a b e : Expr} {es : List Expr} {pos : Pos} {fa fb fc : DE} {ff : DF} {ga : DA}
theorem kp_free {mu mu' : Addr → Prop} {H H' : Hp} (hm : ∀ a, mu a → ∃ o, H a = some o) {p : Addr} (h : Kp mu H mu' H') : True := trivial
theorem dfr (h : PE X e (lfF X.K Z ff)) : PE X e (lft X.K Z (dL ff)) := PEimp h fun σ H Q h => by
  obtain ⟨M, s, d, s', rl, hf, k⟩ := h
  unfold dL at hf
  simp only [Option.map_eq_some_iff] at hf
  obtain ⟨⟨ds, s1⟩, h1, h2⟩ := hf
  cases h2
  refine ⟨M, s, ds, _, rl, h1, fun p xs H' hp hx k1 r1 t1 => k _ H' k1 r1.unadd (.lst (.inl hx) (fun q => ?_) (t1.mono kp_drop))⟩
  obtain ⟨o, e⟩ := rl.muT p q
  rw [hp] at e; cases e
theorem flst (h : PA X es (lfA X.K Z ga)) : PE X (.List es pos) (lfF X.K Z (fLst ga)) := PEimp (pe_lst h) fun σ H Q h => by
  obtain ⟨M, s, ds, s', rl, hf, k⟩ := h
  unfold fLst at hf
  simp only [Option.bind_eq_some_iff] at hf
  obtain ⟨⟨d1, s1⟩, h1, h2⟩ := hf
  dsimp only at h2
  split at h2
  · cases h2
    rename_i hz
    refine ⟨M, s, ds, _, rl, h1, fun vs H1 k1 r1 t1 => ⟨by rw [t1.len]; exact hz, fun p hp => ?_⟩⟩
    have hp0 : H p = none := by
      cases q : H p with
      | none => rfl
      | some o =>
        by_cases m : Mu Z M p
        · obtain ⟨u, e⟩ := r1.muT p m
          rw [hp] at e; cases e
        · have := (k1.kp p o q m).1
          rw [hp] at this; cases this
    exact k p vs _ hp0 upd_same (k1.trans (kq_grow (grow_new hp))) (r1.addNew hp _) (t1.mono (kp_addNew hp _))
  · cases h2
end

/-! ### statements -/
def sNil : DS := fun s => some (.nx s)
def sSeq (f g : DS) : DS := fun s => (f s).bind fun fl => match fl with
  | .nx s' => g s'
  | fl => some fl
def sSet (i : Nat) (f : DE) : DS := fun s => (f s).map fun p => .nx (p.2.set i (.dat p.1))
def sOwn (i : Nat) (f : DF) : DS := fun s => (f s).bind fun p => if i < p.2.length then some (.nx (p.2.set i (.own p.1))) else none
def sRet (f : DE) : DS := fun s => (f s).map fun p => .rt p.1 p.2
def sRetN : DS := fun s => some (.rt .none s)
def sIf (t : DT) (f g : DS) : DS := fun s => (t s).bind fun p => if p.1 = true then f p.2 else g p.2
def sDrop (f : DE) : DS := fun s => (f s).map fun p => .nx p.2
def sCont : DS := fun s => some (.ct s)
def sBrk : DS := fun s => some (.bk s)
/-- a name's own list is data from here on -/
def sFrz (i : Nat) : DS := fun s => match s[i]? with
  | some (.own ds) => some (.nx (s.set i (.dat (.list ds))))
  | _ => none
section
variable {X : Cx} {Z : Par} {a b e : Expr} {es : List Expr} {pos : Pos} {fa fb fc : DE} {ff : DF} {ga : DA} {st : Stmt} {sts : List Stmt} {f g : DS} {t : DT}
theorem FlOk.mono {K : PySem.W.Frag} {m0 m1 : List Addr} {H0 H1 : Hp} {D : Ends} (k : Kq Z m0 H0 m1 H1) : ∀ {fl : Fl}, FlOk K Z m0 H0 D fl → FlOk K Z m1 H1 D fl
  | .nx _, h => fun M σ H k1 r => h M σ H (k.trans k1) r
  | .rt _ _, h => fun M σ H v k1 r => h M σ H v (k.trans k1) r
  | .bk _, h => fun M σ H k1 r => h M σ H (k.trans k1) r
  | .ct _, h => fun M σ H k1 r => h M σ H (k.trans k1) r
theorem snil : PSs X [] (lfS X.K Z sNil) := PSsimp pss_nil fun D σ H h => by
  obtain ⟨M, s, fl, rl, hf, k⟩ := h
  cases hf
  exact k M σ H (Kq.refl _ _ _) rl
theorem lift_seq {K : PySem.W.Frag} {D : Ends} {σ : L2.St} {H : Hp} (h : lfS K Z (sSeq f g) D σ H) : tSeq (lfS K Z f) (lfS K Z g) D σ H := by
  obtain ⟨M, s, fl, rl, hf, k⟩ := h
  unfold sSeq at hf
  simp only [Option.bind_eq_some_iff] at hf
  obtain ⟨fl1, h1, h2⟩ := hf
  refine ⟨M, s, fl1, rl, h1, ?_⟩
  cases fl1 with
  | nx s1 => exact fun M1 σ1 H1 k1 r1 => ⟨M1, s1, fl, r1, h2, k.mono k1⟩
  | rt d s1 => cases h2; exact k
  | bk s1 => cases h2; exact k
  | ct s1 => cases h2; exact k
theorem scons (h1 : PS X st (lfS X.K Z f)) (h2 : PSs X sts (lfS X.K Z g)) : PSs X (st :: sts) (lfS X.K Z (sSeq f g)) := PSsimp (pss_cons h1 h2) fun _ _ _ h => lift_seq h
theorem sone (h1 : PS X st (lfS X.K Z f)) : PSs X [st] (lfS X.K Z f) := pss_one h1
theorem sset {i : Nat} {x : Str} {pos' : Pos} (hN : X.N.Nodup) (hi : X.N[i]? = some x) (hx : Loc X.env.scope x) (he : PE X e (lft X.K Z fa)) (hs : swapsWith e (some (.Name x pos')) pos.line X.env = pure false := by rfl)
    (hf : X.fn x = true ∨ X.env.scope.names.lookup x = some .local := by first | exact .inl rfl | exact .inr rfl | assumption) : PS X (.Assign [.Name x pos'] e pos) (lfS X.K Z (sSet i fa)) := PSimp (ps_set hN hi hx he hs hf) fun D σ H h => by
  obtain ⟨M, s, fl, rl, h1, k⟩ := h
  unfold sSet at h1
  simp only [Option.map_eq_some_iff] at h1
  obtain ⟨⟨d, s1⟩, h1, h2⟩ := h1
  cases h2
  refine ⟨M, s, d, s1, rl, h1, fun v H1 k1 r1 t1 => ?_⟩
  obtain ⟨M', _, r2, k2⟩ := r1.setDat t1 i
  exact k M' _ H1 (k1.trans k2) r2
theorem sown {i : Nat} {x : Str} {pos' : Pos} (hN : X.N.Nodup) (hi : X.N[i]? = some x) (hx : Loc X.env.scope x) (he : PE X e (lfF X.K Z ff)) (hs : swapsWith e (some (.Name x pos')) pos.line X.env = pure false := by rfl)
    (hf : X.fn x = true ∨ X.env.scope.names.lookup x = some .local := by first | exact .inl rfl | exact .inr rfl | assumption) : PS X (.Assign [.Name x pos'] e pos) (lfS X.K Z (sOwn i ff)) := PSimp (ps_set hN hi hx he hs hf) fun D σ H h => by
  obtain ⟨M, s, fl, rl, h1, k⟩ := h
  unfold sOwn at h1
  simp only [Option.bind_eq_some_iff] at h1
  obtain ⟨⟨ds, s1⟩, h1, h2⟩ := h1
  dsimp only at h2
  split at h2
  · cases h2
    rename_i hlt
    refine ⟨M, s, ds, s1, rl, h1, fun p xs H1 hp hx k1 r1 t1 => ?_⟩
    have npp : Z.p ≠ some p := fun z => by
      obtain ⟨o, e⟩ := rl.pt p z
      rw [hp] at e; cases e
    have n0 : Z.H0 p = none := by
      cases q : Z.H0 p with
      | none => rfl
      | some o =>
        have := rl.base p o q npp
        rw [hp] at this; cases this
    have nm : ¬ Z.m0 p := fun z => by
      obtain ⟨o, e⟩ := rl.mz p z
      rw [hp] at e; cases e
    obtain ⟨M', r2, k2⟩ := r1.own n0 npp nm hx t1 i hlt
    exact k M' _ H1 (fun c u e n1 n2 => ⟨(k1 c u e n1 n2).1, fun z => (k2 c z).elim n2 (ne_of_none e hp)⟩) r2
  · cases h2
theorem sret (he : PE X e (lft X.K Z fa)) : PS X (.Return (some e) pos) (lfS X.K Z (sRet fa)) := PSimp (ps_ret he) fun D σ H h => by
  obtain ⟨M, s, fl, rl, h1, k⟩ := h
  unfold sRet at h1
  simp only [Option.map_eq_some_iff] at h1
  obtain ⟨⟨d, s1⟩, h1, h2⟩ := h1
  cases h2
  exact ⟨M, s, d, s1, rl, h1, fun v H1 k1 r1 t1 => k M σ H1 v k1 r1 t1⟩
theorem sretN : PS X (.Return none pos) (lfS X.K Z sRetN) := PSimp ps_retN fun D σ H h => by
  obtain ⟨M, s, fl, rl, h1, k⟩ := h
  cases h1
  exact k M σ H _ (Kq.refl _ _ _) rl .non
theorem sif {c : Expr} {xs ys : List Stmt} (hc : PT X c (lfT X.K Z t)) (ha : PSs X xs (lfS X.K Z f)) (hb : PSs X ys (lfS X.K Z g)) : PS X (.If c xs ys pos) (lfS X.K Z (sIf t f g)) := PSimp (ps_if hc ha hb) fun D σ H h => by
  obtain ⟨M, s, fl, rl, h1, k⟩ := h
  unfold sIf at h1
  simp only [Option.bind_eq_some_iff] at h1
  obtain ⟨⟨c1, s1⟩, h1, h2⟩ := h1
  refine ⟨M, s, c1, s1, rl, h1, fun H1 k1 r1 => ?_⟩
  cases c1 with
  | true => exact ⟨M, s1, fl, r1, h2, k.mono k1⟩
  | false => exact ⟨M, s1, fl, r1, h2, k.mono k1⟩
theorem sdrop (he : PE X e (lft X.K Z fa)) (hs : swapsWith e none pos.line X.env = pure false := by rfl) : PS X (.Expr e pos) (lfS X.K Z (sDrop fa)) := PSimp (ps_expr he hs) fun D σ H h => by
  obtain ⟨M, s, fl, rl, h1, k⟩ := h
  unfold sDrop at h1
  simp only [Option.map_eq_some_iff] at h1
  obtain ⟨⟨d, s1⟩, h1, h2⟩ := h1
  cases h2
  exact ⟨M, s, d, s1, rl, h1, fun v H1 k1 r1 t1 => k M σ H1 k1 r1⟩
theorem scont : PS X (.Continue pos) (lfS X.K Z sCont) := PSimp ps_continue fun D σ H h => by
  obtain ⟨M, s, fl, rl, h1, k⟩ := h
  cases h1
  exact k M σ H (Kq.refl _ _ _) rl
theorem sbrk : PS X (.Break pos) (lfS X.K Z sBrk) := PSimp ps_break fun D σ H h => by
  obtain ⟨M, s, fl, rl, h1, k⟩ := h
  cases h1
  exact k M σ H (Kq.refl _ _ _) rl
/-- .. freezing -/
theorem SlAll.frz {K : PySem.W.Frag} {mu : Addr → Prop} {q : Option Addr} {H : Hp} {ds : List PyData} : ∀ {σ : L2.St} {s : Sl} {M : List Addr} (i : Nat), SlAll K mu q H σ s M → s[i]? = some (.own ds) →
    ∃ a xs M', σ[i]? = some (some (.ref a)) ∧ H a = some (.lst xs) ∧ DtAll K mu H xs ds ∧ a ∈ M ∧ a ∉ M' ∧ (∀ b ∈ M', b ∈ M) ∧ (∀ mu', (∀ b, mu' b → mu b) → ¬ mu' a → SlAll K mu' q H σ (s.set i (.dat (.list ds))) M')
  | _, _, _, _, .nil, e => by simp at e
  | _, _, _, 0, .dat h t, e => by simp at e
  | _, _, _, 0, .no t, e => by simp at e
  | _, _, _, 0, .pot .., e => by simp at e
  | _, _, _, 0, .own (a := a) (xs := xs) h d n t, e => by
    simp at e
    subst e
    refine ⟨a, xs, _, rfl, h, d, List.mem_cons_self, n, fun b hb => List.mem_cons_of_mem _ hb, fun mu' hs hn => ?_⟩
    have k : Kp mu H mu' H := fun c u e nn => ⟨e, fun z => nn (hs c z)⟩
    exact .dat (.lst (.inl h) hn (d.mono k)) (t.kp k (fun _ _ _ e => e) (fun _ _ _ e => e) (fun _ h => h))
  | _, _, _, i + 1, .dat h t, e => by
    obtain ⟨a, xs, M', h1, h2, h3, h4, h5, h6, h7⟩ := SlAll.frz i t (by simpa using e)
    exact ⟨a, xs, M', by simpa using h1, h2, h3, h4, h5, h6, fun mu' hs hn => .dat (h.mono fun c u e nn => ⟨e, fun z => nn (hs c z)⟩) (h7 mu' hs hn)⟩
  | _, _, _, i + 1, .no t, e => by
    obtain ⟨a, xs, M', h1, h2, h3, h4, h5, h6, h7⟩ := SlAll.frz i t (by simpa using e)
    exact ⟨a, xs, M', by simpa using h1, h2, h3, h4, h5, h6, fun mu' hs hn => .no (h7 mu' hs hn)⟩
  | _, _, _, i + 1, .own (a := c) h d n t, e => by
    obtain ⟨a, xs, M', h1, h2, h3, h4, h5, h6, h7⟩ := SlAll.frz i t (by simpa using e)
    refine ⟨a, xs, c :: M', by simpa using h1, h2, h3, List.mem_cons_of_mem _ h4, fun z => (List.mem_cons.mp z).elim (fun w => n (w ▸ h4)) h5, fun b hb => (List.mem_cons.mp hb).elim (fun w => w ▸ List.mem_cons_self) fun w => List.mem_cons_of_mem _ (h6 b w), fun mu' hs hn => ?_⟩
    exact .own h (d.mono fun c u e nn => ⟨e, fun z => nn (hs c z)⟩) (fun z => n (h6 c z)) (h7 mu' hs hn)
  | _, _, _, i + 1, .pot e1 h d t, e => by
    obtain ⟨a, xs, M', h1, h2, h3, h4, h5, h6, h7⟩ := SlAll.frz i t (by simpa using e)
    exact ⟨a, xs, M', by simpa using h1, h2, h3, h4, h5, h6, fun mu' hs hn => .pot e1 h (d.mono fun c u e nn => ⟨e, fun z => nn (hs c z)⟩) (h7 mu' hs hn)⟩
  | _, _, _, 0, .tab .., e => by simp at e
  | _, _, _, i + 1, .tab e1 h d f t, e => by
    obtain ⟨a, xs, M', h1, h2, h3, h4, h5, h6, h7⟩ := SlAll.frz i t (by simpa using e)
    exact ⟨a, xs, M', by simpa using h1, h2, h3, h4, h5, h6, fun mu' hs hn => .tab e1 h d (fun pos cv z => let ⟨c, g1, g2, g3⟩ := f pos cv z; ⟨c, g1, g2, fun w => g3 (hs c w)⟩) (h7 mu' hs hn)⟩
  | _, _, _, 0, .dic .., e => by simp at e
  | _, _, _, i + 1, .dic (a := c) h n t, e => by
    obtain ⟨a, xs, M', h1, h2, h3, h4, h5, h6, h7⟩ := SlAll.frz i t (by simpa using e)
    refine ⟨a, xs, c :: M', by simpa using h1, h2, h3, List.mem_cons_of_mem _ h4, fun z => (List.mem_cons.mp z).elim (fun w => n (w ▸ h4)) h5, fun b hb => (List.mem_cons.mp hb).elim (fun w => w ▸ List.mem_cons_self) fun w => List.mem_cons_of_mem _ (h6 b w), fun mu' hs hn => ?_⟩
    exact .dic (h.mono (fun c u e nn => ⟨e, fun z => nn (hs c z)⟩) fun _ e => e) (fun z => n (h6 c z)) (h7 mu' hs hn)
theorem sfrz {i : Nat} (h : PSs X sts (lfS X.K Z g)) : PSs X sts (lfS X.K Z (sSeq (sFrz i) g)) := PSsimp h fun D σ H h => by
  obtain ⟨M, s, fl, rl, h1, k⟩ := h
  unfold sSeq sFrz at h1
  simp only [Option.bind_eq_some_iff] at h1
  obtain ⟨fl1, h1, h2⟩ := h1
  split at h1
  · rename_i ds hs
    cases h1
    obtain ⟨a, xs, M', g1, g2, g3, g4, g5, g6, g7⟩ := rl.sl.frz i hs
    have sub : ∀ b, Mu Z M' b → Mu Z M b := fun b hb => by
      rcases hb with hb | hb | hb
      · exact .inl hb
      · exact .inr (.inl hb)
      · exact .inr (.inr (g6 b hb))
    have na : ¬ Mu Z M' a := fun hb => by
      rcases hb with hb | hb | hb
      · exact (rl.fr a g4).2.2.1 hb
      · exact (rl.fr a g4).2.1 hb
      · exact g5 hb
    have kk : Kq Z M H M' H := fun c u e _ nn => ⟨e, fun z => nn (g6 c z)⟩
    exact ⟨M', _, fl, ⟨rl.base, fun b hb => rl.fr b (g6 b hb), rl.mz, rl.pt, g7 _ sub na⟩, h2, k.mono kk⟩
  · cases h1
end
end Dl

namespace Dl
open PySem PySem.Spec PyProof.Rows L2

/-! ### lists that may be changed -/
def contents (s : Sl) (i : Nat) : Option (List PyData) := match s[i]? with
  | some (.own ds) => some ds
  | some (.pot ds) => some ds
  | _ => none
def potUp (ds : List PyData) : SV → SV
  | .pot _ => .pot ds
  | x => x
def setC (s : Sl) (i : Nat) (ds : List PyData) : Sl := match s[i]? with
  | some (.own _) => s.set i (.own ds)
  | some (.pot _) => s.map (potUp ds)
  | _ => s
section
variable {K : PySem.W.Frag} {Z : Par} {M M' : List Addr} {σ : L2.St} {H H' : Hp} {s s' : Sl} {p : Addr} {mu : Addr → Prop} {q : Option Addr}
theorem SlAll.wrOwn {ds' : List PyData} {xs' : List V} {a : Addr} (hk : Kp mu H mu H') (hs : ∀ b o, H b = some o → b ≠ a → H' b = some o) (h1 : H' a = some (.lst xs')) (h2 : DtAll K mu H' xs' ds') (hq : q ≠ some a) {M : List Addr} (t : SlAll K mu q H σ s M) :
    ∀ (i : Nat) (ds : List PyData), s[i]? = some (.own ds) → σ[i]? = some (some (.ref a)) → SlAll K mu q H' σ (s.set i (.own ds')) M := by
  have rest : ∀ {σ : L2.St} {s : Sl} {M : List Addr}, a ∉ M → SlAll K mu q H σ s M → SlAll K mu q H' σ s M := fun {σ s M} n t =>
    t.kp hk (M := M) (fun b xs hb e => hs b _ e (fun z => n (z ▸ hb))) (fun b xs hb e => hs b _ e (fun z => hq (z ▸ hb))) (fun _ h => h)
  induction t with
  | nil => intro i ds e; simp at e
  | dat h t ih =>
    intro i ds e f
    cases i with
    | zero => simp at e
    | succ i => exact .dat (h.mono hk) (ih i ds (by simpa using e) (by simpa using f))
  | no t ih =>
    intro i ds e f
    cases i with
    | zero => simp at e
    | succ i => exact .no (ih i ds (by simpa using e) (by simpa using f))
  | pot e0 h d t ih =>
    intro i ds e f
    cases i with
    | zero => simp at e
    | succ i => exact .pot e0 (hs _ _ h (fun z => hq (z ▸ e0))) (d.mono hk) (ih i ds (by simpa using e) (by simpa using f))
  | tab e0 h d w t ih =>
    intro i ds e f
    cases i with
    | zero => simp at e
    | succ i => exact .tab e0 (hs _ _ h (fun z => hq (z ▸ e0))) d (fun pos cv z => let ⟨c, g1, g2, g3⟩ := w pos cv z; ⟨c, g1, (hk _ _ g2 g3).1, (hk _ _ g2 g3).2⟩) (ih i ds (by simpa using e) (by simpa using f))
  | @dic c ct σ s M h m t ih =>
    intro i ds e f
    cases i with
    | zero => simp at e
    | succ i =>
      have nc : c ≠ a := fun z => by
        subst z
        obtain ⟨b, xs, g1, g2, _⟩ := t.getOwn (i := i) (by simpa using e)
        have : σ[i]? = some (some (.ref c)) := by simpa using f
        rw [this] at g1
        simp only [Option.some.injEq, V.ref.injEq] at g1
        exact m (g1 ▸ g2)
      exact .dic (h.mono hk fun o e => hs _ _ e nc) m (ih i ds (by simpa using e) (by simpa using f))
  | @own c ys es σ s M h d m t ih =>
    intro i ds e f
    cases i with
    | zero =>
      simp at f
      subst f
      exact .own h1 h2 m (rest m t)
    | succ i =>
      have nc : c ≠ a := fun z => by
        subst z
        obtain ⟨b, xs, g1, g2, _⟩ := t.getOwn (i := i) (by simpa using e)
        have : σ[i]? = some (some (.ref c)) := by simpa using f
        rw [this] at g1
        simp only [Option.some.injEq, V.ref.injEq] at g1
        exact m (g1 ▸ g2)
      exact .own (hs _ _ h nc) (d.mono hk) m (ih i ds (by simpa using e) (by simpa using f))
theorem SlAll.wrPot {ds' : List PyData} {xs' : List V} {a : Addr} (hk : Kp mu H mu H') (hs : ∀ b o, H b = some o → b ≠ a → H' b = some o) (h1 : H' a = some (.lst xs')) (h2 : DtAll K mu H' xs' ds') (hq : q = some a) (hl : ∃ xs, H a = some (.lst xs)) {M : List Addr} (t : SlAll K mu q H σ s M) (n : a ∉ M) :
    SlAll K mu q H' σ (s.map (potUp ds')) M := by
  induction t with
  | nil => exact .nil
  | dat h t ih => exact .dat (h.mono hk) (ih n)
  | no t ih => exact .no (ih n)
  | pot e0 h d t ih =>
    rw [hq] at e0
    cases e0
    exact .pot hq h1 h2 (ih n)
  | tab e0 h d w t ih =>
    rw [hq] at e0
    cases e0
    obtain ⟨xs, hl⟩ := hl
    rw [hl] at h
    cases h
  | own h d m t ih => exact .own (hs _ _ h (fun z => n (z ▸ List.mem_cons_self))) (d.mono hk) m (ih (fun z => n (List.mem_cons_of_mem _ z)))
  | dic h m t ih => exact .dic (h.mono hk fun o e => hs _ _ e (fun z => n (z ▸ List.mem_cons_self))) m (ih (fun z => n (List.mem_cons_of_mem _ z)))
theorem Rel.at (r : Rel K Z M σ H s) {i : Nat} {ds : List PyData} (h : contents s i = some ds) : ∃ a xs, σ[i]? = some (some (.ref a)) ∧ H a = some (.lst xs) ∧ DtAll K (Mu Z M) H xs ds ∧ Mu Z M a ∧
    ∀ H' xs' ds', H' a = some (.lst xs') → (∀ b o, H b = some o → b ≠ a → H' b = some o) → DtAll K (Mu Z M) H' xs' ds' → Rel K Z M σ H' (setC s i ds') ∧ Kq Z M H M H' := by
  unfold contents at h
  split at h
  · rename_i es hs
    cases h
    obtain ⟨a, xs, h1, h2, h3, h4⟩ := r.sl.getOwn hs
    have hmu : Mu Z M a := .inr (.inr h2)
    refine ⟨a, xs, h1, h3, h4, hmu, fun H' xs' ds' e1 e2 e3 => ?_⟩
    have k : Kp (Mu Z M) H (Mu Z M) H' := fun b o e n => ⟨e2 b o e (fun z => n (z ▸ hmu)), n⟩
    have ex : ∀ b o, H b = some o → ∃ u, H' b = some u := fun b o e => by
      by_cases z : b = a
      · rw [z]; exact ⟨_, e1⟩
      · exact ⟨o, e2 b o e z⟩
    refine ⟨⟨fun b o e n => e2 b o (r.base b o e n) (fun z => ?_), fun b hb => let ⟨f1, f2, f3, u, f4⟩ := r.fr b hb; ⟨f1, f2, f3, ex b u f4⟩, fun b hb => let ⟨u, f⟩ := r.mz b hb; ex b u f, fun b hb => let ⟨u, f⟩ := r.pt b hb; ex b u f, ?_⟩, fun b o e _ n => ⟨e2 b o e (fun z => n (z ▸ h2)), n⟩⟩
    · rw [z, (r.fr a h2).1] at e; cases e
    · unfold setC
      rw [hs]
      exact r.sl.wrOwn k e2 e1 e3 (r.fr a h2).2.1 i ds hs h1
  · rename_i es hs
    cases h
    obtain ⟨a, xs, h1, h2, h3, h4⟩ := r.sl.getPot hs
    have hmu : Mu Z M a := .inr (.inl h2)
    refine ⟨a, xs, h1, h3, h4, hmu, fun H' xs' ds' e1 e2 e3 => ?_⟩
    have k : Kp (Mu Z M) H (Mu Z M) H' := fun b o e n => ⟨e2 b o e (fun z => n (z ▸ hmu)), n⟩
    have ex : ∀ b o, H b = some o → ∃ u, H' b = some u := fun b o e => by
      by_cases z : b = a
      · rw [z]; exact ⟨_, e1⟩
      · exact ⟨o, e2 b o e z⟩
    refine ⟨⟨fun b o e n => e2 b o (r.base b o e n) (fun z => n (z ▸ h2)), fun b hb => let ⟨f1, f2, f3, u, f4⟩ := r.fr b hb; ⟨f1, f2, f3, ex b u f4⟩, fun b hb => let ⟨u, f⟩ := r.mz b hb; ex b u f, fun b hb => let ⟨u, f⟩ := r.pt b hb; ex b u f, ?_⟩, fun b o e n m => ⟨e2 b o e (fun z => n (z ▸ h2)), m⟩⟩
    unfold setC
    rw [hs]
    exact r.sl.wrPot k e2 e1 e3 h2 ⟨xs, h3⟩ (fun z => (r.fr a z).2.1 h2)
  · cases h
end

/-- x[e], x a list that may be changed -/
def dIxC (i : Nat) (f : DE) : DE := fun s => (contents s i).bind fun _ => (f s).bind fun p => (contents p.2 i).bind fun ds => match p.1 with
  | .int k => (atI ds k).map fun d => (d, p.2)
  | _ => none
theorem atI_dt {K : PySem.W.Frag} {mu : Addr → Prop} {H : Hp} {xs : List V} {ds : List PyData} {k : Int} {d : PyData} (t : DtAll K mu H xs ds) (h : atI ds k = some d) : ∃ v, atI xs k = some v ∧ Dt K mu H v d := by
  unfold atI at h ⊢
  rw [t.len]
  simp only [Option.bind_eq_some_iff] at h ⊢
  obtain ⟨j, h1, h2⟩ := h
  obtain ⟨v, h3, h4⟩ := t.get h2
  exact ⟨v, ⟨j, h1, h3⟩, h4⟩
/-- texts, numbers, truths, None -/
def scalD : PyData → Bool
  | .none => true
  | .bool _ => true
  | .int _ => true
  | .str _ => true
  | _ => false
/-- e in x -/
def dInC (neg : Bool) (f : DE) (i : Nat) : DE := fun s => (f s).bind fun p => (contents p.2 i).bind fun ds => if scalD p.1 = true ∧ ds.all scalD = true then some (.bool (if neg then !ds.any (fun z => PyData.eqv z p.1) else ds.any fun z => PyData.eqv z p.1), p.2) else none
/-- x.append(e) -/
def sApp (i : Nat) (f : DE) : DS := fun s => (contents s i).bind fun _ => (f s).bind fun p => (contents p.2 i).bind fun ds => if ds.length < sizeLine then some (.nx (setC p.2 i (ds ++ [p.1]))) else none
/-- x[g] = f -/
def sSetIx (i : Nat) (f g : DE) : DS := fun s => (f s).bind fun p => (contents p.2 i).bind fun _ => (g p.2).bind fun q => (contents q.2 i).bind fun ds => match q.1 with
  | .int k => (ixN ds.length k).map fun j => .nx (setC q.2 i (ds.set j p.1))
  | _ => none
section
variable {X : Cx} {Z : Par} {a b e : Expr} {es : List Expr} {pos : Pos} {fa fb fc : DE} {ff : DF} {ga : DA} {st : Stmt} {sts : List Stmt} {f g : DS} {t : DT}
theorem dixC (i : Nat) (ha : PE X a (tVar i)) (hb : PE X b (lft X.K Z fb)) (hs : PlainIx b := by exact fun _ _ => rfl) : PE X (.Subscript a b pos) (lft X.K Z (dIxC i fb)) := PEimp (pe_ix ix_list ha hb hs) fun σ H Q h => by
  obtain ⟨M, s, d, s', rl, hf, k⟩ := h
  unfold dIxC at hf
  simp only [Option.bind_eq_some_iff] at hf
  obtain ⟨ds0, h0, ⟨d1, s1⟩, h1, ds, h2, h3⟩ := hf
  dsimp only at h2 h3
  split at h3
  · rename_i kk
    simp only [Option.map_eq_some_iff] at h3
    obtain ⟨d2, h3, h4⟩ := h3
    cases h4
    obtain ⟨a0, xs0, g1, _⟩ := rl.at h0
    refine ⟨.ref a0, g1, M, s, _, _, rl, h1, fun v H1 k1 r1 t1 => ?_⟩
    obtain ⟨a1, xs, e1, e2, e3, _⟩ := r1.at h2
    rw [g1] at e1
    cases e1
    obtain ⟨v2, e4, e5⟩ := atI_dt e3 h3
    exact ⟨a0, xs, kk, v2, rfl, t1.inti, .inl (.inl e2), e4, k _ H1 k1 r1 e5⟩
  · cases h3
theorem scal_v {K : PySem.W.Frag} {mu : Addr → Prop} {H : Hp} {v : V} {d : PyData} (t : Dt K mu H v d) (h : scalD d = true) : flatV v = true := by
  cases t <;> first | rfl | (exact absurd h (by simp [scalD]))
theorem scal_vs {K : PySem.W.Frag} {mu : Addr → Prop} {H : Hp} : ∀ {vs : List V} {ds : List PyData}, DtAll K mu H vs ds → ds.all scalD = true → vs.all flatV = true
  | _, _, .nil, _ => rfl
  | _, _, .cons h t, e => by
    rw [List.all_cons, Bool.and_eq_true] at e ⊢
    exact ⟨scal_v h e.1, scal_vs t e.2⟩
theorem scal_eq {K : PySem.W.Frag} {mu : Addr → Prop} {H : Hp} {v w : V} {d e : PyData} (t : Dt K mu H v d) (u : Dt K mu H w e) (h : scalD d = true) (h' : scalD e = true) : eqV v w = PyData.eqv d e := by
  cases d with
  | list _ => cases h
  | tuple _ => cases h
  | dict _ => cases h
  | none => cases t; cases e <;> first | (cases h'; done) | (cases u; simp [eqV, PyData.eqv])
  | bool _ => cases t; cases e <;> first | (cases h'; done) | (cases u; simp [eqV, PyData.eqv])
  | int _ => cases t; cases e <;> first | (cases h'; done) | (cases u; simp [eqV, PyData.eqv])
  | str _ => cases t; cases e <;> first | (cases h'; done) | (cases u; simp [eqV, PyData.eqv])
theorem scal_any {K : PySem.W.Frag} {mu : Addr → Prop} {H : Hp} {v : V} {d : PyData} (u : Dt K mu H v d) (h : scalD d = true) : ∀ {vs : List V} {ds : List PyData}, DtAll K mu H vs ds → ds.all scalD = true → inV v vs = ds.any fun z => PyData.eqv z d
  | _, _, .nil, _ => rfl
  | _, _, .cons g t, e => by
    rw [List.all_cons, Bool.and_eq_true] at e
    have ih := scal_any u h t e.2
    unfold inV at ih ⊢
    rw [List.any_cons, List.any_cons, ih, scal_eq g u e.1 h]
theorem dinC (neg : Bool) {op : CmpOp} (hop : OpR X (compareOp op) (rIn X.K neg)) (i : Nat) (ha : PE X a (lft X.K Z fa)) (hb : PE X b (tVar i)) (hm : behindInMarks op b = false) : PE X (.Compare a [op] [b] pos) (lft X.K Z (dInC neg fa i)) := PEimp (pe_cmpR hop ha hb hm) fun σ H Q h => by
  obtain ⟨M, s, d, s', rl, hf, k⟩ := h
  unfold dInC at hf
  simp only [Option.bind_eq_some_iff] at hf
  obtain ⟨⟨d1, s1⟩, h1, ds, h2, h3⟩ := hf
  dsimp only at h2 h3
  split at h3
  · rename_i hc
    cases h3
    refine ⟨M, s, d1, _, rl, h1, fun v H1 k1 r1 t1 => ?_⟩
    obtain ⟨a1, xs, e1, e2, e3, _⟩ := r1.at h2
    refine ⟨.ref a1, e1, a1, xs, rfl, .inl (.inl (.inl e2)), scal_v t1 hc.1, scal_vs e3 hc.2, ?_⟩
    rw [scal_any t1 hc.1 e3 hc.2]
    exact k _ H1 k1 r1 (.bl _)
  · cases h3
theorem dtinC (neg : Bool) {op : CmpOp} (hop : OpR X (compareOp op) (rIn X.K neg)) (i : Nat) (ha : PE X a (lft X.K Z fa)) (hb : PE X b (tVar i)) (hm : behindInMarks op b = false) : PT X (.Compare a [op] [b] pos) (lfT X.K Z (dTst (dInC neg fa i))) := PTimp (pt_cmpR hop ha hb hm) fun σ H Q h => by
  obtain ⟨M, s, d, s', rl, hf, k⟩ := h
  have hf := dTst_some hf
  unfold dInC at hf
  simp only [Option.bind_eq_some_iff] at hf
  obtain ⟨⟨d1, s1⟩, h1, ds, h2, h3⟩ := hf
  dsimp only at h2 h3
  split at h3
  · rename_i hc
    simp only [Option.some.injEq, Prod.mk.injEq, PyData.bool.injEq] at h3
    obtain ⟨h3, rfl⟩ := h3
    refine ⟨M, s, d1, _, rl, h1, fun v H1 k1 r1 t1 => ?_⟩
    obtain ⟨a1, xs, e1, e2, e3, _⟩ := r1.at h2
    refine ⟨.ref a1, e1, a1, xs, rfl, .inl (.inl (.inl e2)), scal_v t1 hc.1, scal_vs e3 hc.2, ?_⟩
    rw [scal_any t1 hc.1 e3 hc.2]
    exact ⟨_, rfl, by rw [h3]; exact k H1 k1 r1⟩
  · cases h3
theorem upd_lst {H : Hp} {a : Addr} {o : HO} : ∀ b u, H b = some u → b ≠ a → (upd H a o) b = some u := fun b u e n => by rw [upd_ne n]; exact e
theorem sapp (i : Nat) {apos cpos : Pos} (ha : PE X a (tVar i)) (hb : PE X b (lft X.K Z fb)) (hbase : attributeBase a "append" X.env (eval a X.env) = eval a X.env := by rfl)
    (hfew : ((backTo cpos (starEach [b] X.env)).all (fun x => !x.1) && (backToKw cpos (keywordEach [] X.env)).all (fun x => x.1.isSome) && decide (([b] : List Expr).length + ([] : List Keyword).length + (if ([] : List Keyword).isEmpty then 0 else 1) < 30)) = true := by rfl)
    (hline : (apos.endLine == cpos.line) = true := by rfl) (hs : starEach [b] X.env = (false, eval b X.env) :: starEach [] X.env := by rfl) (hplain : (backTo cpos (starEach [] X.env)).any (·.1) = false := by rfl)
    (hsw : swapsWith (.Call (.Attribute a "append" apos) [b] [] cpos) none pos.line X.env = pure false := by rfl) :
    PS X (.Expr (.Call (.Attribute a "append" apos) [b] [] cpos) pos) (lfS X.K Z (sApp i fb)) := PSimp (ps_expr (pe_bm PySem.F.plainAttrs_list PySem.F.slot_list_append PySem.F.type_list_append mt_append ha (pa_cons hb pa_nil hs) hbase hfew hline hs hplain) hsw) fun D σ H h => by
  obtain ⟨M, s, fl, rl, hf, k⟩ := h
  unfold sApp at hf
  simp only [Option.bind_eq_some_iff] at hf
  obtain ⟨ds0, h0, ⟨d1, s1⟩, h1, ds, h2, h3⟩ := hf
  dsimp only at h2 h3
  split at h3
  · rename_i hz
    cases h3
    obtain ⟨a0, xs0, g1, g2, _⟩ := rl.at h0
    refine ⟨.ref a0, g1, .inl ⟨rfl, _, .inl (.inl g2)⟩, M, s, d1, s1, rl, h1, fun v H1 k1 r1 t1 => ?_⟩
    obtain ⟨a1, xs, e1, e2, e3, _, e5⟩ := r1.at h2
    rw [g1] at e1
    cases e1
    refine ⟨a0, xs, v, rfl, rfl, e2, by rw [e3.len]; exact hz, ?_⟩
    have kk : Kp (Mu Z M) H1 (Mu Z M) (upd H1 a0 (.lst (xs ++ [v]))) := fun b o e n => ⟨upd_lst b o e (fun z => n (by subst z; assumption)), n⟩
    obtain ⟨r2, k2⟩ := e5 (upd H1 a0 (.lst (xs ++ [v]))) (xs ++ [v]) (ds ++ [d1]) upd_same upd_lst ((e3.append (.cons t1 .nil)).mono kk)
    exact k M σ _ (k1.trans k2) r2
  · cases h3
theorem ssetIx (i : Nat) {e1 c : Expr} {p1 : Pos} {fe fc : DE} (he : PE X e1 (lft X.K Z fe)) (ha : PE X a (tVar i)) (hc : PE X c (lft X.K Z fc))
    (h4 : ∀ v, assign (.Subscript a c p1) X.env v = (do
      let ov ← holding [v] (eval a X.env)
      let iv ← holding [v, ov] (eval c X.env)
      standAt p1
      holding [v, ov, iv] (setItem ov iv v)
      release [v, ov, iv] []) := by intro _; rfl)
    (hs : swapsWithSole [.Subscript a c p1] e1 pos.line X.env = pure false := by rfl) (hw : swappedStores [.Subscript a c p1] e1 X.env = pure none := by rfl) (h1 : (assignEach [.Subscript a c p1] X.env).map (·.2) = [assign (.Subscript a c p1) X.env] := by rfl) :
    PS X (.Assign [.Subscript a c p1] e1 pos) (lfS X.K Z (sSetIx i fe fc)) := PSimp (ps_asg he (pg_sub ha hc set_list h4) hs hw h1) fun D σ H h => by
  obtain ⟨M, s, fl, rl, hf, k⟩ := h
  unfold sSetIx at hf
  simp only [Option.bind_eq_some_iff] at hf
  obtain ⟨⟨d1, s1⟩, h1, ds0, h0, ⟨d2, s2⟩, h2, ds, h3, h4⟩ := hf
  dsimp only at h0 h2 h3 h4
  split at h4
  · rename_i kk
    simp only [Option.map_eq_some_iff] at h4
    obtain ⟨j, h4, h5⟩ := h4
    cases h5
    refine ⟨M, s, d1, _, rl, h1, fun v H1 k1 r1 t1 => ?_⟩
    obtain ⟨a0, xs0, g1, g2, _⟩ := r1.at h0
    refine ⟨.ref a0, g1, M, s1, _, s2, r1, h2, fun w H2 k2 r2 t2 => ?_⟩
    obtain ⟨a1, xs, e1, e2, e3, _, e5⟩ := r2.at h3
    rw [g1] at e1
    cases e1
    refine ⟨a0, xs, kk, j, rfl, t2.inti, e2, by rw [e3.len]; exact h4, ?_⟩
    have kk : Kp (Mu Z M) H2 (Mu Z M) (upd H2 a0 (.lst (xs.set j v))) := fun b o e n => ⟨upd_lst b o e (fun z => n (by subst z; assumption)), n⟩
    obtain ⟨r3, k3⟩ := e5 (upd H2 a0 (.lst (xs.set j v))) (xs.set j v) (ds.set j d1) upd_same upd_lst ((DtAll.set (t1.mono k2.kp) j e3).mono kk)
    exact k M σ _ (k1.trans (k2.trans k3)) r3
  · cases h4
end
end Dl

namespace Dl
open PySem PySem.Spec PyProof.Rows L2

/-! ### what is walked -/
def Yields (K : PySem.W.Frag) (mu : Addr → Prop) (H : Hp) (J : It) (ds : List PyData) : Prop := ∀ mu' H', Kp mu H mu' H' → ∀ i, (i < ds.length → J.go i H' ∧ ∀ x H'', J.yld i H' x H'' → H'' = H' ∧ ∃ d, ds[i]? = some d ∧ Dt K mu' H' x d) ∧ (ds.length ≤ i → J.stop i H')
theorem Yields.mono {K : PySem.W.Frag} {mu mu' : Addr → Prop} {H H' : Hp} {J : It} {ds : List PyData} (h : Yields K mu H J ds) (k : Kp mu H mu' H') : Yields K mu' H' J ds := fun m2 H2 k2 i => h m2 H2 (k.trans k2) i
def lfI (K : PySem.W.Frag) (Z : Par) (f : DF) : TI := fun σ H R => ∃ M s ds s', Rel K Z M σ H s ∧ f s = some (ds, s') ∧ ∀ J H', Kq Z M H M H' → Rel K Z M σ H' s' → Yields K (Mu Z M) H' J ds → R J H'
theorem PIimp {X : Cx} {tg e : Expr} {t t' : TI} (h : PI X tg e t) (i : ∀ σ H Q, t' σ H Q → t σ H Q) : PI X tg e t' := ⟨fun pins s σ H Q I q => h.run pins s σ H Q I (i σ H Q q)⟩
/-- a list, a tuple, a text's signs, a range's numbers -/
def itL (f : DE) : DF := fun s => (f s).bind fun p => match p.1 with
  | .list ds => some (ds, p.2)
  | _ => none
def itT (f : DE) : DF := fun s => (f s).bind fun p => match p.1 with
  | .tuple ds => some (ds, p.2)
  | _ => none
def signs (x : Str) : List PyData := x.cps.toList.map fun c => .str ⟨#[c]⟩
def itS (f : DE) : DF := fun s => (f s).bind fun p => match p.1 with
  | .str x => some (signs x, p.2)
  | _ => none
def rng (lo n : Int) : List PyData := (List.range (n - lo).toNat).map fun (k : Nat) => .int (lo + (k : Int))
def itR1 (f : DE) : DF := fun s => (f s).bind fun p => match p.1 with
  | .int n => if -(2 ^ 62) ≤ n ∧ n < 2 ^ 62 then some (rng 0 n, p.2) else none
  | _ => none
def itR2 (f g : DE) : DF := fun s => (f s).bind fun p => (g p.2).bind fun q => match p.1, q.1 with
  | .int lo, .int n => if (-(2 ^ 62) ≤ lo ∧ lo < 2 ^ 62) ∧ -(2 ^ 62) ≤ n ∧ n < 2 ^ 62 then some (rng lo n, q.2) else none
  | _, _ => none
section
variable {K : PySem.W.Frag} {mu : Addr → Prop} {H : Hp}
theorem yields_list {a : Addr} {ds : List PyData} (t : Dt K mu H (.ref a) (.list ds)) : Yields K mu H (Itl K a) ds := fun mu' H' k i => by
  obtain ⟨b, xs, e, h1, h2⟩ := (t.mono k).list
  cases e
  constructor
  · intro hi
    obtain ⟨v, g1, g2⟩ := h2.get (List.getElem?_eq_getElem hi)
    refine ⟨⟨xs, v, h1, g1⟩, fun x H'' hy => ⟨hy.1, _, List.getElem?_eq_getElem hi, ?_⟩⟩
    have e := hy.2 xs h1
    rw [g1] at e
    cases e
    exact g2
  · intro hi
    exact ⟨xs, h1, by rw [h2.len]; exact hi⟩
theorem yields_tup {a : Addr} {ds : List PyData} (t : Dt K mu H (.ref a) (.tuple ds)) : Yields K mu H (Itt K a) ds := fun mu' H' k i => by
  obtain ⟨b, xs, e, h1, h2⟩ := (t.mono k).tuple
  cases e
  constructor
  · intro hi
    obtain ⟨v, g1, g2⟩ := h2.get (List.getElem?_eq_getElem hi)
    refine ⟨⟨xs, v, h1, g1⟩, fun x H'' hy => ⟨hy.1, _, List.getElem?_eq_getElem hi, ?_⟩⟩
    have e := hy.2 xs h1
    rw [g1] at e
    cases e
    exact g2
  · intro hi
    exact ⟨xs, h1, by rw [h2.len]; exact hi⟩
theorem yields_str (x : Str) : Yields K mu H (Its x) (signs x) := fun mu' H' k i => by
  have hl : (signs x).length = x.cps.size := by unfold signs; rw [List.length_map, Array.length_toList]
  constructor
  · intro hi
    rw [hl] at hi
    refine ⟨hi, fun v H'' hy => ⟨hy.1, ?_⟩⟩
    obtain ⟨c, e1, e2⟩ := hy.2
    refine ⟨.str ⟨#[c]⟩, ?_, by rw [e2]; exact .str _⟩
    unfold signs
    rw [List.getElem?_map, Array.getElem?_toList, e1]
    rfl
  · intro hi
    rw [hl] at hi
    exact hi
theorem yields_rng (lo n : Int) : Yields K mu H (Itr lo (n - lo).toNat) (rng lo n) := fun mu' H' k i => by
  have hl : (rng lo n).length = (n - lo).toNat := by unfold rng; rw [List.length_map, List.length_range]
  constructor
  · intro hi
    rw [hl] at hi
    refine ⟨hi, fun v H'' hy => ⟨hy.1, .int (lo + (i : Int)), ?_, by rw [hy.2]; exact .int _⟩⟩
    unfold rng
    rw [List.getElem?_map, List.getElem?_range hi]
    rfl
  · intro hi
    rw [hl] at hi
    exact hi
end
section
variable {X : Cx} {Z : Par} {tg a b e : Expr} {es : List Expr} {pos : Pos} {fa fb fc : DE} {ff : DF} {ga : DA} {st : Stmt} {sts : List Stmt} {f g : DS} {t : DT}
theorem pil (h : PE X e (lft X.K Z fa)) : PI X tg e (lfI X.K Z (itL fa)) := PIimp (pi_list h) fun σ H R h => by
  obtain ⟨M, s, ds, s', rl, hf, k⟩ := h
  unfold itL at hf
  simp only [Option.bind_eq_some_iff] at hf
  obtain ⟨⟨d1, s1⟩, h1, h2⟩ := hf
  dsimp only at h2
  split at h2
  · cases h2
    refine ⟨M, s, _, _, rl, h1, fun v H1 k1 r1 t1 => ?_⟩
    obtain ⟨a, xs, rfl, g1, g2⟩ := t1.list
    exact ⟨a, rfl, ⟨xs, g1⟩, k _ H1 k1 r1 (yields_list t1)⟩
  · cases h2
theorem pit (h : PE X e (lft X.K Z fa)) : PI X tg e (lfI X.K Z (itT fa)) := PIimp (pi_tup h) fun σ H R h => by
  obtain ⟨M, s, ds, s', rl, hf, k⟩ := h
  unfold itT at hf
  simp only [Option.bind_eq_some_iff] at hf
  obtain ⟨⟨d1, s1⟩, h1, h2⟩ := hf
  dsimp only at h2
  split at h2
  · cases h2
    refine ⟨M, s, _, _, rl, h1, fun v H1 k1 r1 t1 => ?_⟩
    obtain ⟨a, xs, rfl, g1, g2⟩ := t1.tuple
    exact ⟨a, rfl, ⟨xs, g1⟩, k _ H1 k1 r1 (yields_tup t1)⟩
  · cases h2
theorem pis (h : PE X e (lft X.K Z fa)) : PI X tg e (lfI X.K Z (itS fa)) := PIimp (pi_str h) fun σ H R h => by
  obtain ⟨M, s, ds, s', rl, hf, k⟩ := h
  unfold itS at hf
  simp only [Option.bind_eq_some_iff] at hf
  obtain ⟨⟨d1, s1⟩, h1, h2⟩ := hf
  dsimp only at h2
  split at h2
  · rename_i x
    cases h2
    refine ⟨M, s, _, _, rl, h1, fun v H1 k1 r1 t1 => ?_⟩
    exact ⟨x, t1.text, k _ H1 k1 r1 (yields_str x)⟩
  · cases h2
theorem pir1 {p : Pos} (hg : Gl X "range") (hm : X.mg "range" = none) (h : PE X a (lft X.K Z fa)) (hs : starEach [a] X.env = [(false, eval a X.env)] := by rfl) : PI X tg (.Call (.Name "range" p) [a] [] pos) (lfI X.K Z (itR1 fa)) := PIimp (pi_range1 hg hm (pa_cons h pa_nil hs) hs) fun σ H R h => by
  obtain ⟨M, s, ds, s', rl, hf, k⟩ := h
  unfold itR1 at hf
  simp only [Option.bind_eq_some_iff] at hf
  obtain ⟨⟨d1, s1⟩, h1, h2⟩ := hf
  dsimp only at h2
  split at h2
  · rename_i n
    split at h2
    · rename_i hb
      cases h2
      refine ⟨M, s, _, _, rl, h1, fun v H1 k1 r1 t1 => ?_⟩
      refine ⟨n, by rw [t1.inti], hb.1, hb.2, ?_⟩
      have y : Yields X.K (Mu Z M) H1 (Itr 0 (n - 0).toNat) (rng 0 n) := yields_rng 0 n
      rw [show n - 0 = n from Int.sub_zero n] at y
      exact k _ H1 k1 r1 y
    · cases h2
  · cases h2
theorem pir2 {p : Pos} (hg : Gl X "range") (hm : X.mg "range" = none) (h : PE X a (lft X.K Z fa)) (h' : PE X b (lft X.K Z fb)) (hs : starEach [a, b] X.env = (false, eval a X.env) :: starEach [b] X.env := by rfl) (hs2 : starEach [b] X.env = [(false, eval b X.env)] := by rfl) : PI X tg (.Call (.Name "range" p) [a, b] [] pos) (lfI X.K Z (itR2 fa fb)) := PIimp (pi_range2 hg hm (pa_cons h (pa_cons h' pa_nil hs2) hs) (by rw [hs, hs2]) hs2) fun σ H R h => by
  obtain ⟨M, s, ds, s', rl, hf, k⟩ := h
  unfold itR2 at hf
  simp only [Option.bind_eq_some_iff] at hf
  obtain ⟨⟨d1, s1⟩, h1, ⟨d2, s2⟩, h2, h3⟩ := hf
  dsimp only at h2 h3
  split at h3
  · rename_i lo n
    split at h3
    · rename_i hb
      cases h3
      refine ⟨M, s, _, _, rl, h1, fun v H1 k1 r1 t1 => ⟨M, s1, _, _, r1, h2, fun w H2 k2 r2 t2 => ?_⟩⟩
      exact ⟨lo, n, by rw [t1.inti, t2.inti], ⟨hb.1.1, hb.1.2, hb.2.1, hb.2.2⟩, k _ H2 (k1.trans k2) r2 (yields_rng lo n)⟩
    · cases h3
  · cases h3
end

/-! ### targets -/
/-- a target stores what gd says -/
def TgOk (K : PySem.W.Frag) (g : TG) (gd : PyData → Sl → Option Sl) : Prop := ∀ (Z : Par) (M : List Addr) (σ : L2.St) (H : Hp) (s s' : Sl) (x : V) (d : PyData) (Q : L2.St → Hp → Prop), Rel K Z M σ H s → Dt K (Mu Z M) H x d → gd d s = some s' →
  (∀ M' σ', Rel K Z M' σ' H s' → Kq Z M H M' H → Q σ' H) → g x σ H Q
def tgN (i : Nat) : PyData → Sl → Option Sl := fun d s => some (s.set i (.dat d))
def tgTs : List (PyData → Sl → Option Sl) → List PyData → Sl → Option Sl
  | [], [], s => some s
  | g :: gs, d :: ds, s => (g d s).bind fun s' => tgTs gs ds s'
  | _, _, _ => none
def tgT (gs : List (PyData → Sl → Option Sl)) : PyData → Sl → Option Sl := fun d s => match d with
  | .tuple ds => tgTs gs ds s
  | _ => none
section
variable {K : PySem.W.Frag}
theorem tgn {i : Nat} : TgOk K (gName i) (tgN i) := fun Z M σ H s s' x d Q r t e k => by
  cases e
  obtain ⟨M', _, r2, k2⟩ := r.setDat t i
  exact k M' _ r2 k2
def TgsOk (K : PySem.W.Frag) (g : TGs) (gd : List PyData → Sl → Option Sl) : Prop := ∀ (Z : Par) (M : List Addr) (σ : L2.St) (H : Hp) (s s' : Sl) (xs : List V) (ds : List PyData) (Q : L2.St → Hp → Prop), Rel K Z M σ H s → DtAll K (Mu Z M) H xs ds → gd ds s = some s' →
  (∀ M' σ', Rel K Z M' σ' H s' → Kq Z M H M' H → Q σ' H) → g xs σ H Q
theorem tgsnil : TgsOk K gNil (tgTs []) := fun Z M σ H s s' xs ds Q r t e k => by
  cases ds with
  | nil => cases t; cases e; exact ⟨rfl, k M σ r (Kq.refl _ _ _)⟩
  | cons _ _ => cases e
theorem tgscons {g : TG} {gs : TGs} {gd : PyData → Sl → Option Sl} {gds : List (PyData → Sl → Option Sl)} (h : TgOk K g gd) (hs : TgsOk K gs (tgTs gds)) : TgsOk K (gCons g gs) (tgTs (gd :: gds)) := fun Z M σ H s s' xs ds Q r t e k => by
  cases ds with
  | nil => cases e
  | cons d ds =>
    cases t with
    | cons t1 t2 =>
      unfold tgTs at e
      simp only [Option.bind_eq_some_iff] at e
      obtain ⟨s1, e1, e2⟩ := e
      exact ⟨_, _, rfl, h Z M σ H s s1 _ d _ r t1 e1 fun M1 σ1 r1 k1 => hs Z M1 σ1 H s1 s' _ ds _ r1 (t2.mono k1.kp) e2 fun M2 σ2 r2 k2 => k M2 σ2 r2 (k1.trans k2)⟩
theorem tgTs_len : ∀ {gds : List (PyData → Sl → Option Sl)} {ds : List PyData} {s s' : Sl}, tgTs gds ds s = some s' → ds.length = gds.length
  | [], [], _, _, _ => rfl
  | [], _ :: _, _, _, e => by cases e
  | _ :: _, [], _, _, e => by cases e
  | g :: gs, d :: ds, s, s', e => by
    unfold tgTs at e
    simp only [Option.bind_eq_some_iff] at e
    obtain ⟨s1, _, e2⟩ := e
    rw [List.length_cons, List.length_cons, tgTs_len e2]
theorem tgt {n : Nat} {gs : TGs} {gds : List (PyData → Sl → Option Sl)} (hn : n = gds.length) (hs : TgsOk K gs (tgTs gds)) : TgOk K (gTup K n gs) (tgT gds) := fun Z M σ H s s' x d Q r t e k => by
  unfold tgT at e
  split at e
  · rename_i ds
    obtain ⟨a, xs, rfl, h1, h2⟩ := t.tuple
    exact ⟨a, xs, rfl, h1, by rw [h2.len, tgTs_len e, hn], hs Z M σ H s s' xs ds Q r h2 e k⟩
  · cases e
end

/-! ### for -/
def runFor (gd : PyData → Sl → Option Sl) (b : DS) : List PyData → Sl → Option Fl
  | [], s => some (.nx s)
  | d :: r, s => (gd d s).bind fun s1 => (b s1).bind fun fl => match fl with
    | .nx s' => runFor gd b r s'
    | .ct s' => runFor gd b r s'
    | .bk s' => some (.nx s')
    | .rt d s' => some (.rt d s')
def sFor (fi : DF) (gd : PyData → Sl → Option Sl) (b : DS) : DS := fun s => (fi s).bind fun p => runFor gd b p.1 p.2
def sAsg (f : DE) (gd : PyData → Sl → Option Sl) : DS := fun s => (f s).bind fun p => (gd p.1 p.2).map fun s' => .nx s'
section
variable {X : Cx} {Z : Par} {tg a b e : Expr} {es : List Expr} {pos : Pos} {fa fb fc : DE} {ff : DF} {ga : DA} {st : Stmt} {sts : List Stmt} {f : DS} {t : DT} {g : TG} {gd : PyData → Sl → Option Sl}
theorem lift_for {K : PySem.W.Frag} (hg : TgOk K g gd) {D : Ends} {σ : L2.St} {H : Hp} (h : lfS K Z (sFor ff gd f) D σ H) : tFor (lfI K Z ff) g (lfS K Z f) D σ H := by
  obtain ⟨M, s, fl, rl, hf, k⟩ := h
  unfold sFor at hf
  simp only [Option.bind_eq_some_iff] at hf
  obtain ⟨⟨ds, s1⟩, h1, h2⟩ := hf
  dsimp only at h2
  refine ⟨M, s, ds, s1, rl, h1, fun J H1 k1 r1 y => ?_⟩
  refine ⟨fun i m σ' H' => m = ds.length - i ∧ i ≤ ds.length ∧ ∃ M' s', Kq Z M H1 M' H' ∧ Rel K Z M' σ' H' s' ∧ runFor gd f (ds.drop i) s' = some fl, ⟨ds.length, by simp, Nat.zero_le _, M, s1, Kq.refl _ _ _, r1, h2⟩, ?_⟩
  rintro i m σ' H' ⟨rfl, hi, M', s', k2, r2, h3⟩
  by_cases hlt : i < ds.length
  · have ed : ds.drop i = ds[i] :: ds.drop (i + 1) := List.drop_eq_getElem_cons hlt
    rw [ed] at h3
    unfold runFor at h3
    simp only [Option.bind_eq_some_iff] at h3
    obtain ⟨s2, e1, fl1, e2, e3⟩ := h3
    refine .inr ⟨((y _ _ k2.kp i).1 hlt).1, fun σ3 H3 => ∃ M3 s3, Kq Z M H1 M3 H3 ∧ Rel K Z M3 σ3 H3 s3 ∧ runFor gd f (ds.drop (i + 1)) s3 = some fl, fun σ3 H3 q => ⟨ds.length - (i + 1), by omega, rfl, hlt, q⟩, fun x H'' hy => ?_⟩
    obtain ⟨rfl, d, e4, e5⟩ := ((y _ _ k2.kp i).1 hlt).2 x H'' hy
    rw [List.getElem?_eq_getElem hlt] at e4
    cases e4
    refine hg Z M' σ' _ s' s2 x _ _ r2 e5 e1 fun M3 σ3 r3 k3 => ?_
    refine ⟨M3, s2, fl1, r3, e2, ?_⟩
    have kk : Kq Z M H M3 _ := k1.trans (k2.trans k3)
    cases fl1 with
    | nx s4 => exact fun M4 σ4 H4 k4 r4 => ⟨M4, s4, k2.trans (k3.trans k4), r4, e3⟩
    | ct s4 => exact fun M4 σ4 H4 k4 r4 => ⟨M4, s4, k2.trans (k3.trans k4), r4, e3⟩
    | bk s4 => cases e3; exact fun M4 σ4 H4 k4 r4 => k M4 σ4 H4 (kk.trans k4) r4
    | rt d4 s4 => cases e3; exact fun M4 σ4 H4 v4 k4 r4 t4 => k M4 σ4 H4 v4 (kk.trans k4) r4 t4
  · have e : i = ds.length := by omega
    subst e
    rw [List.drop_length] at h3
    cases h3
    exact .inl ⟨(y _ _ k2.kp _).2 (Nat.le_refl _), k M' σ' H' (k1.trans k2) r2⟩
theorem sfor {iter : Expr} {body : List Stmt} (hp : PassesOwn (model X.prog X.w) X.A X.env X.xe) (hc : X.calm = true) (hi : PI X tg iter (lfI X.K Z ff)) (hg : PG X tg g) (hgd : TgOk X.K g gd) (hb : PSs X body (lfS X.K Z f))
    (hs : ∀ x, foldedSetIterable iter X.env x = pure x := by intro _; rfl) : PS X (.For tg iter body [] pos) (lfS X.K Z (sFor ff gd f)) := PSimp (ps_for hp hc hi hg hb hs) fun _ _ _ h => lift_for hgd h
/-- a, b = e -/
theorem sasg (he : PE X e (lft X.K Z fa)) (hg : PG X tg g) (hgd : TgOk X.K g gd) (hs : swapsWithSole [tg] e pos.line X.env = pure false := by rfl) (hw : swappedStores [tg] e X.env = pure none := by rfl)
    (h1 : (assignEach [tg] X.env).map (·.2) = [assign tg X.env] := by rfl) : PS X (.Assign [tg] e pos) (lfS X.K Z (sAsg fa gd)) := PSimp (ps_asg he hg hs hw h1) fun D σ H h => by
  obtain ⟨M, s, fl, rl, hf, k⟩ := h
  unfold sAsg at hf
  simp only [Option.bind_eq_some_iff, Option.map_eq_some_iff] at hf
  obtain ⟨⟨d, s1⟩, h1, s2, h2, h3⟩ := hf
  cases h3
  exact ⟨M, s, d, s1, rl, h1, fun v H1 k1 r1 t1 => hgd Z M σ H1 s1 s2 v d _ r1 t1 h2 fun M' σ' r2 k2 => k M' σ' H1 (k1.trans k2) r2⟩
/-- a, b = x, y -/
def sPar (i j : Nat) (f g : DE) : DS := fun s => (f s).bind fun p => (g p.2).map fun q => .nx ((q.2.set i (.dat p.1)).set j (.dat q.1))
theorem spar {i j : Nat} {x y : Str} {px py pt : Pos} {kt k2 pt2} (hc : X.calm = true) (hN : X.N.Nodup) (hi : X.N[i]? = some x) (hj : X.N[j]? = some y) (hij : i ≠ j)
    (hx : X.env.scope.names.lookup x = some .local) (hy : X.env.scope.names.lookup y = some .local) (ha : PE X a (lft X.K Z fa)) (hb : PE X b (lft X.K Z fb))
    (hw : swappedStores [.Tuple [.Name x px, .Name y py] kt pt] (.Tuple [a, b] k2 pt2) X.env = pure (some [x, y]))
    (hs : swapsWithSole [.Tuple [.Name x px, .Name y py] kt pt] (.Tuple [a, b] k2 pt2) pos.line X.env = pure false := by rfl) (hs1 : starEach [a, b] X.env = (false, eval a X.env) :: starEach [b] X.env := by rfl) (hs2 : starEach [b] X.env = (false, eval b X.env) :: starEach [] X.env := by rfl) :
    PS X (.Assign [.Tuple [.Name x px, .Name y py] kt pt] (.Tuple [a, b] k2 pt2) pos) (lfS X.K Z (sPar i j fa fb)) := PSimp (ps_par hc hN hi hj hij hx hy (pa_cons ha (pa_cons hb pa_nil hs2) hs1) hw hs) fun D σ H h => by
  obtain ⟨M, s, fl, rl, hf, k⟩ := h
  unfold sPar at hf
  simp only [Option.bind_eq_some_iff, Option.map_eq_some_iff] at hf
  obtain ⟨⟨d, s1⟩, h1, ⟨d2, s2⟩, h2, h3⟩ := hf
  cases h3
  refine ⟨M, s, d, s1, rl, h1, fun v H1 k1 r1 t1 => ⟨M, s1, d2, s2, r1, h2, fun w H2 k2 r2 t2 => ⟨v, w, rfl, ?_⟩⟩⟩
  obtain ⟨M3, _, r3, k3⟩ := r2.setDat (t1.mono k2.kp) i
  obtain ⟨M4, _, r4, k4⟩ := r3.setDat (t2.mono k3.kp) j
  exact k M4 _ H2 (k1.trans (k2.trans (k3.trans k4))) r4
end
end Dl

namespace Dl
open PySem PySem.Spec PyProof.Rows L2

/-! ### comprehensions, one name -/
def isNo : Option SV → Bool
  | some .no => true
  | _ => false
theorem isNo_eq {x : Option SV} (h : isNo x = true) : x = some .no := by
  unfold isNo at h
  split at h
  · rfl
  · cases h
def notOwn : Option SV → Bool
  | some (.own _) => false
  | some (.dic _) => false
  | _ => true
def NoOwn (x : Option SV) : Prop := (∀ ds, x ≠ some (.own ds)) ∧ (∀ c, x ≠ some (.dic c))
theorem notOwn_ne {x : Option SV} (h : notOwn x = true) : NoOwn x := ⟨fun ds e => (by rw [e] at h; cases h), fun c e => (by rw [e] at h; cases h)⟩
def lcRun (j : Nat) (t : DT) (f : DE) : List PyData → Sl → Option (List PyData × Sl)
  | [], s => some ([], s)
  | d :: r, s => (t (s.set j (.dat d))).bind fun p => if notOwn p.2[j]? = true then (if p.1 = true then (f p.2).bind fun q => if notOwn q.2[j]? = true then (lcRun j t f r q.2).map fun w => (q.1 :: w.1, w.2) else none else lcRun j t f r p.2) else none
/-- the comprehension's slot j; what a turn leaves there is forgotten -/
def fLc (fi : DF) (j : Nat) (t : DT) (f : DE) : DF := fun s => (fi s).bind fun p => if isNo p.2[j]? = true ∧ p.1.length < sizeLine then (lcRun j t f p.1 p.2).map fun q => (q.1, q.2.set j .no) else none
def tYesD : DT := fun s => some (true, s)
section
variable {K : PySem.W.Frag} {Z : Par} {M M' : List Addr} {σ : L2.St} {H H' : Hp} {s s' : Sl} {p : Addr} {mu : Addr → Prop} {q : Option Addr}
/-- a slot of which nothing is known may hold anything -/
theorem SlAll.anyNo {x : Option V} : ∀ {σ : L2.St} {s : Sl} {M : List Addr} (j : Nat), SlAll K mu q H σ s M → s[j]? = some .no → SlAll K mu q H (σ.set j x) s M
  | _, _, _, _, .nil, e => by simp at e
  | _, _, _, 0, .dat h t, e => by simp at e
  | _, _, _, 0, .no t, e => .no t
  | _, _, _, 0, .own h d n t, e => by simp at e
  | _, _, _, 0, .pot e0 h d t, e => by simp at e
  | _, _, _, j + 1, .dat h t, e => .dat h (SlAll.anyNo j t (by simpa using e))
  | _, _, _, j + 1, .no t, e => .no (SlAll.anyNo j t (by simpa using e))
  | _, _, _, j + 1, .own h d n t, e => .own h d n (SlAll.anyNo j t (by simpa using e))
  | _, _, _, j + 1, .pot e0 h d t, e => .pot e0 h d (SlAll.anyNo j t (by simpa using e))
  | _, _, _, 0, .tab .., e => by simp at e
  | _, _, _, j + 1, .tab e0 h d f t, e => .tab e0 h d f (SlAll.anyNo j t (by simpa using e))
  | _, _, _, 0, .dic h n t, e => by simp at e
  | _, _, _, j + 1, .dic h n t, e => .dic h n (SlAll.anyNo j t (by simpa using e))
/-- .. a slot is forgotten (no list of its own) -/
theorem SlAll.forget {x : Option V} : ∀ {σ : L2.St} {s : Sl} {M : List Addr} (j : Nat), SlAll K mu q H σ s M → NoOwn s[j]? → SlAll K mu q H (σ.set j x) (s.set j .no) M
  | _, _, _, _, .nil, e => .nil
  | _, _, _, 0, .dat h t, e => .no t
  | _, _, _, 0, .no t, e => .no t
  | _, _, _, 0, .own h d n t, e => absurd rfl (e.1 _)
  | _, _, _, 0, .pot e0 h d t, e => .no t
  | _, _, _, j + 1, .dat h t, e => .dat h (SlAll.forget j t (by simpa using e))
  | _, _, _, j + 1, .no t, e => .no (SlAll.forget j t (by simpa using e))
  | _, _, _, j + 1, .own h d n t, e => .own h d n (SlAll.forget j t (by simpa using e))
  | _, _, _, j + 1, .pot e0 h d t, e => .pot e0 h d (SlAll.forget j t (by simpa using e))
  | _, _, _, 0, .tab e0 h d f t, e => .no t
  | _, _, _, j + 1, .tab e0 h d f t, e => .tab e0 h d f (SlAll.forget j t (by simpa using e))
  | _, _, _, 0, .dic h n t, e => absurd rfl (e.2 _)
  | _, _, _, j + 1, .dic h n t, e => .dic h n (SlAll.forget j t (by simpa using e))
theorem SlAll.putDat {v : V} {d : PyData} (hv : Dt K mu H v d) : ∀ {σ : L2.St} {s : Sl} {M : List Addr} (j : Nat), SlAll K mu q H σ s M → NoOwn s[j]? → SlAll K mu q H (σ.set j (some v)) (s.set j (.dat d)) M
  | _, _, _, _, .nil, e => .nil
  | _, _, _, 0, .dat h t, e => .dat hv t
  | _, _, _, 0, .no t, e => .dat hv t
  | _, _, _, 0, .own h d n t, e => absurd rfl (e.1 _)
  | _, _, _, 0, .pot e0 h d t, e => .dat hv t
  | _, _, _, j + 1, .dat h t, e => .dat h (SlAll.putDat hv j t (by simpa using e))
  | _, _, _, j + 1, .no t, e => .no (SlAll.putDat hv j t (by simpa using e))
  | _, _, _, j + 1, .own h d n t, e => .own h d n (SlAll.putDat hv j t (by simpa using e))
  | _, _, _, j + 1, .pot e0 h d t, e => .pot e0 h d (SlAll.putDat hv j t (by simpa using e))
  | _, _, _, 0, .tab e0 h d f t, e => .dat hv t
  | _, _, _, j + 1, .tab e0 h d f t, e => .tab e0 h d f (SlAll.putDat hv j t (by simpa using e))
  | _, _, _, 0, .dic h n t, e => absurd rfl (e.2 _)
  | _, _, _, j + 1, .dic h n t, e => .dic h n (SlAll.putDat hv j t (by simpa using e))
theorem Rel.withSl (r : Rel K Z M σ H s) {σ' : L2.St} {s' : Sl} (h : SlAll K (Mu Z M) Z.p H σ' s' M) : Rel K Z M σ' H s' := ⟨r.base, r.fr, r.mz, r.pt, h⟩
theorem set_no {s : Sl} {j : Nat} (h : s[j]? = some .no) : s.set j .no = s := by
  apply List.ext_getElem?
  intro i
  by_cases e : i = j
  · subst e
    have hl : i < s.length := (List.getElem?_eq_some_iff.mp h).1
    rw [List.getElem?_set_self hl, h]
  · rw [List.getElem?_set_ne (Ne.symm e)]
end
section
variable {X : Cx} {Z : Par} {tg a b e : Expr} {es : List Expr} {pos : Pos} {fa fb fc : DE} {ff : DF} {ga : DA} {st : Stmt} {sts : List Stmt} {f : DS} {t : DT} {g : TG} {gd : PyData → Sl → Option Sl}
theorem wipe1 (σ : L2.St) (j : Nat) : wipe σ [j] = σ.set j none := rfl
theorem lift_lc {K : PySem.W.Frag} {j : Nat} {σ : L2.St} {H : Hp} {Q : VK} {T : TT} {E : TE} (hT : ∀ Z σ H Q, lfT K Z t σ H Q → T σ H Q) (hE : ∀ Z σ H Q, lft K Z fa σ H Q → E σ H Q) (h : lfF K Z (fLc ff j t fa) σ H Q) : tLc (lfI K Z ff) (gName j) T E [j] σ H Q := by
  obtain ⟨M, s, ds, s', rl, hf, k⟩ := h
  unfold fLc at hf
  simp only [Option.bind_eq_some_iff] at hf
  obtain ⟨⟨is, s1⟩, h1, h2⟩ := hf
  dsimp only at h2
  split at h2
  · rename_i hc
    simp only [Option.map_eq_some_iff] at h2
    obtain ⟨⟨os, s2⟩, h2, h3⟩ := h2
    cases h3
    have hc1 := isNo_eq hc.1
    refine ⟨M, s, is, s1, rl, h1, fun J H1 k1 r1 y D hD => ?_⟩
    have hD0 : H D = none := by
      cases q : H D with
      | none => rfl
      | some o =>
        by_cases m : Mu Z M D
        · obtain ⟨u, e⟩ := r1.muT D m
          rw [hD] at e; cases e
        · have := (k1.kp D o q m).1
          rw [hD] at this; cases this
    have npp : Z.p ≠ some D := fun z => by
      obtain ⟨o, e⟩ := r1.pt D z
      rw [hD] at e; cases e
    have nDM : D ∉ M := fun z => by
      obtain ⟨_, _, _, o, e⟩ := r1.fr D z
      rw [hD] at e; cases e
    have n0 : Z.H0 D = none := by
      cases q : Z.H0 D with
      | none => rfl
      | some o =>
        have := r1.base D o q npp
        rw [hD] at this; cases this
    have y1 : Yields K (Mu (Z.add D) M) (upd H1 D (.lst [])) J is := y.mono (kp_addNew hD _)
    -- all that stood, but D, stands
    let Kd : Hp → Prop := fun H' => ∀ a o, H1 a = some o → Z.p ≠ some a → a ∉ M → H' a = some o
    have kdy : ∀ {H'}, Kd H' → Kp (Mu Z M) H1 (Mu (Z.add D) M) H' := fun {H'} q a o e n => ⟨q a o e (fun z => n (.inr (.inl z))) (fun z => n (.inr (.inr z))), fun z => (mu_add.mp z).elim n (ne_of_none e hD)⟩
    let Wv : Nat → Hp → Prop := fun i H' => ∃ sw acc dacc rest, Kd H' ∧ Rel K (Z.add D) M σ H' (sw.set j .no) ∧ NoOwn sw[j]? ∧
      H' D = some (.lst acc) ∧ DtAll K (Mu (Z.add D) M) H' acc dacc ∧ dacc.length ≤ i ∧ lcRun j t fa (is.drop i) sw = some (rest, s2) ∧ os = dacc ++ rest
    refine ⟨fun i m H' => m = is.length - i ∧ i ≤ is.length ∧ Wv i H', ⟨is.length, by simp, Nat.zero_le _, s1, [], [], os, fun a o e _ _ => grow_new hD a o e, ?_, ?_, upd_same, .nil, Nat.le_refl _, h2, rfl⟩, ?_⟩
    · rw [set_no hc1]
      exact r1.addNew hD _
    · exact ⟨fun ds hh => (by rw [hc1] at hh; cases hh), fun ds hh => (by rw [hc1] at hh; cases hh)⟩
    rintro i m H' ⟨rfl, hi, sw, acc, dacc, rest, k2, r2, hsw, e1, e2, e3, e4, e5⟩
    by_cases hlt : i < is.length
    · have ed : is.drop i = is[i] :: is.drop (i + 1) := List.drop_eq_getElem_cons hlt
      rw [ed] at e4
      unfold lcRun at e4
      simp only [Option.bind_eq_some_iff] at e4
      obtain ⟨⟨b, s3⟩, e6, e7⟩ := e4
      dsimp only at e7
      split at e7
      case isFalse => cases e7
      rename_i n3
      refine .inr ⟨((y _ _ (kdy k2) i).1 hlt).1, Wv (i + 1), fun H3 q => ⟨is.length - (i + 1), by omega, rfl, hlt, q⟩, fun x H'' hy => ?_⟩
      obtain ⟨rfl, d, e8, e9⟩ := ((y _ _ (kdy k2) i).1 hlt).2 x H'' hy
      rw [List.getElem?_eq_getElem hlt] at e8
      cases e8
      refine ⟨by rw [wipe1, wipe1, List.set_set, List.set_set], ?_⟩
      have r3 : Rel K (Z.add D) M ((wipe σ [j]).set j (some x)) H'' (sw.set j (.dat is[i])) := by
        have q := (r2.sl.putDat e9 j ⟨(by
          intro ds hh
          by_cases hl : j < sw.length
          · rw [List.getElem?_set_self hl] at hh; cases hh
          · rw [List.getElem?_eq_none (by simpa using hl)] at hh; cases hh), (by
          intro ds hh
          by_cases hl : j < sw.length
          · rw [List.getElem?_set_self hl] at hh; cases hh
          · rw [List.getElem?_eq_none (by simpa using hl)] at hh; cases hh)⟩)
        rw [List.set_set] at q
        refine r2.withSl ?_
        rw [wipe1, List.set_set]
        exact q
      have back : ∀ {H4 : Hp} {s4 : Sl}, Rel K (Z.add D) M ((wipe σ [j]).set j (some x)) H4 s4 → NoOwn s4[j]? → Rel K (Z.add D) M σ H4 (s4.set j .no) := fun {H4 s4} r4 hs4 => by
        have q := r4.sl.forget (x := σ[j]?.join) j hs4
        refine r4.withSl ?_
        rw [wipe1, List.set_set, List.set_set] at q
        have e : σ.set j (σ[j]?.join) = σ := by
          apply List.ext_getElem?
          intro i'
          by_cases e : i' = j
          · subst e
            by_cases hl : i' < σ.length
            · rw [List.getElem?_set_self hl, List.getElem?_eq_getElem hl]; rfl
            · rw [List.getElem?_eq_none (by simpa using hl), List.getElem?_eq_none (by simpa using hl)]
          · rw [List.getElem?_set_ne (Ne.symm e)]
        rw [e] at q
        exact q
      refine hT (Z.add D) _ _ _ ⟨M, _, b, s3, r3, e6, fun H4 k4 r4 => ?_⟩
      have eD4 : H4 D = some (.lst acc) := (k4 D _ e1 npp nDM).1
      have kd4 : Kd H4 := fun a o e n1 n2 => (k4 a o (k2 a o e n1 n2) n1 n2).1
      cases b with
      | true =>
        rw [if_pos rfl] at e7
        simp only [Option.bind_eq_some_iff] at e7
        obtain ⟨⟨d2, s4⟩, e10, e11⟩ := e7
        dsimp only at e11
        split at e11
        case isFalse => cases e11
        rename_i n4
        simp only [Option.map_eq_some_iff] at e11
        obtain ⟨⟨w, s5⟩, e11, e12⟩ := e11
        cases e12
        refine iteT ?_
        refine hE (Z.add D) _ _ _ ⟨M, s3, d2, s4, r4, e10, fun v H5 k5 r5 t5 => ?_⟩
        have eD5 : H5 D = some (.lst acc) := (k5 D _ eD4 npp nDM).1
        have nm : Mu (Z.add D) M D := .inl (.inr rfl)
        have kw : Kp (Mu (Z.add D) M) H5 (Mu (Z.add D) M) (upd H5 D (.lst (acc ++ [v]))) := fun a u e n => ⟨by
          have na : a ≠ D := fun z => n (by rw [z]; exact nm)
          rw [upd_ne na]; exact e, n⟩
        have lacc := e2.len
        refine ⟨acc, eD5, by omega, s4, acc ++ [v], dacc ++ [d2], w, fun a o e n1 n2 => ?_, (back r5 (notOwn_ne n4)).wrAdd npp _ n0, notOwn_ne n4, upd_same, ((e2.mono (k4.kp.trans k5.kp)).append (.cons t5 .nil)).mono kw, by rw [List.length_append]; exact Nat.succ_le_succ e3, e11, by rw [e5, List.append_assoc]; rfl⟩
        have na : a ≠ D := ne_of_none e hD
        rw [upd_ne na]
        exact (k5 a o (kd4 a o e n1 n2) n1 n2).1
      | false =>
        rw [if_neg (by simp)] at e7
        refine iteF ?_
        exact ⟨s3, acc, dacc, rest, kd4, back r4 (notOwn_ne n3), notOwn_ne n3, eD4, e2.mono k4.kp, by omega, e7, e5⟩
    · have e : i = is.length := by omega
      subst e
      rw [List.drop_length] at e4
      cases e4
      rw [List.append_nil] at e5
      subst e5
      refine .inl ⟨(y _ _ (kdy k2) _).2 (Nat.le_refl _), ?_⟩
      exact k D acc H' hD0 e1 (fun a o e n1 n2 => ⟨k2 a o (k1 a o e n1 n2).1 n1 n2, n2⟩) r2 e2
  · cases h2
theorem flc {elt iter : Expr} {x : Str} {px : Pos} {ifs : List Expr} {scope : Scope} {j : Nat} (hc : X.calm = true) (hN : X.N.Nodup) (hi : PI X (.Name x px) iter (lfI X.K Z ff)) (ok : BlkOk X.N X.env.scope scope [(x, j)])
    (hg : ∀ (s : Shared) (H : Hp) (C : Addr) (cl : List (Str × Addr)) (fp : List Addr), PG (X.blk s H scope (compEnvC scope cl C X.env) fp) (.Name x px) (gName j))
    (ht : ∀ (s : Shared) (H : Hp) (C : Addr) (cl : List (Str × Addr)) (fp : List Addr) (Z : Par), PTs (X.blk s H scope (compEnvC scope cl C X.env) fp) ifs (lfT X.K Z t))
    (he : ∀ (s : Shared) (H : Hp) (C : Addr) (cl : List (Str × Addr)) (fp : List Addr) (Z : Par), PE (X.blk s H scope (compEnvC scope cl C X.env) fp) elt (lft X.K Z fa)) (hs : ∀ x, foldedSetIterable iter X.env x = pure x := by intro _; rfl) :
    PE X (.ListComp elt [⟨.Name x px, iter, ifs, 0⟩] scope pos) (lfF X.K Z (fLc ff j t fa)) :=
  PEimp (pe_lc hc hN hi ok hg (tt := fun σ H Q => ∃ Z, lfT X.K Z t σ H Q) (te := fun σ H Q => ∃ Z, lft X.K Z fa σ H Q)
    (fun s H0 C cl fp => ⟨fun pins s' σ H Q I ⟨Z, q⟩ => (ht s H0 C cl fp Z).run pins s' σ H Q I q⟩) (fun s H0 C cl fp => ⟨fun pins s' σ H Q I ⟨Z, q⟩ => (he s H0 C cl fp Z).run pins s' σ H Q I q⟩) hs) fun σ H Q h => lift_lc (fun Z _ _ _ q => ⟨Z, q⟩) (fun Z _ _ _ q => ⟨Z, q⟩) h
theorem tynil : PTs X [] (lfT X.K Z tYesD) := ⟨fun pins s σ H Q I h => pts_nil.run pins s σ H Q I (by
  obtain ⟨M, s, c, s', rl, hf, k⟩ := h
  cases hf
  exact k H (Kq.refl _ _ _) rl)⟩
end
end Dl

namespace Dl
open PySem PySem.Spec PyProof.Rows L2

/-! ### promises: a function of data; one that changes the list handed in first; one that makes a list which nobody else has -/
def spP (K : PySem.W.Frag) (m : List PyData → Option PyData) : Sp := fun vs H Q _ => ∃ mu ds d, (∀ a, mu a → ∃ o, H a = some o) ∧ DtAll K mu H vs ds ∧ m ds = some d ∧
  ∀ v H', (∀ a o, H a = some o → H' a = some o) → Dt K mu H' v d → Q v H'
def spM (K : PySem.W.Frag) (m : List PyData → List PyData → Option (PyData × List PyData)) : Sp := fun vs H Q _ => ∃ mu p xs pd rest ds d pd', vs = .ref p :: rest ∧ mu p ∧ (∀ a, mu a → ∃ o, H a = some o) ∧ H p = some (.lst xs) ∧ DtAll K mu H xs pd ∧ DtAll K mu H rest ds ∧
  m pd ds = some (d, pd') ∧ ∀ v H' xs', (∀ a o, H a = some o → a ≠ p → H' a = some o) → H' p = some (.lst xs') → DtAll K mu H' xs' pd' → Dt K mu H' v d → Q v H'
def spF (K : PySem.W.Frag) (m : List PyData → Option (List PyData)) : Sp := fun vs H Q _ => ∃ mu ds es, (∀ a, mu a → ∃ o, H a = some o) ∧ DtAll K mu H vs ds ∧ m ds = some es ∧
  ∀ p xs H', H p = none → (∀ a o, H a = some o → H' a = some o) → H' p = some (.lst xs) → DtAll K (fun a => mu a ∨ a = p) H' xs es → Q (.ref p) H'

def dCall (m : List PyData → Option PyData) (g : DA) : DE := fun s => (g s).bind fun p => (m p.1).map fun d => (d, p.2)
def dCallM (m : List PyData → List PyData → Option (PyData × List PyData)) (i : Nat) (g : DA) : DE := fun s => (contents s i).bind fun _ => (g s).bind fun p => (contents p.2 i).bind fun pd => (m pd p.1).map fun q => (q.1, setC p.2 i q.2)
def fCall (m : List PyData → Option (List PyData)) (g : DA) : DF := fun s => (g s).bind fun p => (m p.1).map fun d => (d, p.2)
section
variable {X : Cx} {Z : Par} {a b e : Expr} {es : List Expr} {pos : Pos} {fa fb fc : DE} {ff : DF} {ga : DA} {k : Nat} {f : Addr} {fd : FuncData} {ps : List Str} {x : Str} {p : Pos} {E : XK}
theorem lift_call {K : PySem.W.Frag} {m : List PyData → Option PyData} {σ : L2.St} {H : Hp} {Q : VK} (h : lft K Z (dCall m ga) σ H Q) : tCall (spP K m) [] E (lfA K Z ga) σ H Q := by
  obtain ⟨M, s, d, s', rl, hf, k⟩ := h
  unfold dCall at hf
  simp only [Option.bind_eq_some_iff, Option.map_eq_some_iff] at hf
  obtain ⟨⟨ds, s1⟩, h1, d1, h2, h3⟩ := hf
  cases h3
  refine ⟨M, s, ds, _, rl, h1, fun vs H1 k1 r1 t1 => ?_⟩
  show spP K m (vs ++ []) H1 Q E
  rw [List.append_nil]
  exact ⟨Mu Z M, ds, _, r1.muT, t1, h2, fun v H2 g2 t2 => k v H2 (k1.trans (kq_grow g2)) (r1.grow g2) t2⟩
theorem dcall {m : List PyData → Option PyData} (F : FnOk X.prog X.w X.K X.mg X.base CX0 k f fd ps (spP X.K m)) (hr : Room k X.A) (hg : Gl X x) (hm : X.mg x = some (.ref f)) (hk : PySem.W.keepIn X.K (.ref f) = true) (hb : Binds X.K fd ps []) (ha : PA X (e :: es) (lfA X.K Z ga)) (hx : Passes CX0 X E0 := by exact pass0)
    (hdb : (x == ("__debug__" : Str)) = false := by decide) (he : starEach (e :: es) X.env = (false, eval e X.env) :: starEach es X.env := by rfl) (hpl : (backTo pos (starEach es X.env)).any (·.1) = false := by rfl) :
    PE X (.Call (.Name x p) (e :: es) [] pos) (lft X.K Z (dCall m ga)) := PEimp (pe_call F hr hg hm hk hb .nil hx ha hdb he hpl) fun _ _ _ h => lift_call h
theorem dcall0 {m : List PyData → Option PyData} (F : FnOk X.prog X.w X.K X.mg X.base CX0 k f fd ps (spP X.K m)) (hr : Room k X.A) (hg : Gl X x) (hm : X.mg x = some (.ref f)) (hk : PySem.W.keepIn X.K (.ref f) = true) (hb : Binds X.K fd ps []) (hx : Passes CX0 X E0 := by exact pass0)
    (hdb : (x == ("__debug__" : Str)) = false := by decide) : PE X (.Call (.Name x p) [] [] pos) (lft X.K Z (dCall m aNil)) := PEimp (pe_call0 F hr hg hm hk hb .nil hx hdb) fun σ H Q h => by
  have q := lift_call (E := E0) h
  obtain ⟨M, s, d, s', rl, hf, k⟩ := q
  cases hf
  exact k [] H (Kq.refl _ _ _) rl .nil
theorem lift_callM {K : PySem.W.Frag} {m : List PyData → List PyData → Option (PyData × List PyData)} {i : Nat} {σ : L2.St} {H : Hp} {Q : VK} (h : lft K Z (dCallM m i ga) σ H Q) : tCall (spM K m) [] E (tCons (tVar i) (lfA K Z ga)) σ H Q := by
  obtain ⟨M, s, d, s', rl, hf, k⟩ := h
  unfold dCallM at hf
  simp only [Option.bind_eq_some_iff, Option.map_eq_some_iff] at hf
  obtain ⟨pd0, h0, ⟨ds, s1⟩, h1, pd, h2, ⟨d1, pd1⟩, h3, h4⟩ := hf
  cases h4
  obtain ⟨a0, xs0, g1, _⟩ := rl.at h0
  refine ⟨.ref a0, g1, M, s, ds, s1, rl, h1, fun vs H1 k1 r1 t1 => ?_⟩
  show spM K m ((V.ref a0 :: vs) ++ []) H1 Q E
  rw [List.append_nil]
  obtain ⟨a1, xs, e1, e2, e3, e4, e5⟩ := r1.at h2
  rw [g1] at e1
  cases e1
  refine ⟨Mu Z M, a0, xs, pd, vs, ds, _, pd1, rfl, e4, r1.muT, e2, e3, t1, h3, fun v H2 xs2 g2 g3 t2 t3 => ?_⟩
  obtain ⟨r2, k2⟩ := e5 H2 xs2 pd1 g3 g2 t2
  exact k v H2 (k1.trans k2) r2 t3
/-- f(x, ..), x a list that f may change -/
theorem dcallM {m : List PyData → List PyData → Option (PyData × List PyData)} (i : Nat) (F : FnOk X.prog X.w X.K X.mg X.base CX0 k f fd ps (spM X.K m)) (hr : Room k X.A) (hg : Gl X x) (hm : X.mg x = some (.ref f)) (hk : PySem.W.keepIn X.K (.ref f) = true) (hb : Binds X.K fd ps []) (h1 : PE X e (tVar i)) (ha : PA X es (lfA X.K Z ga)) (hx : Passes CX0 X E0 := by exact pass0)
    (hdb : (x == ("__debug__" : Str)) = false := by decide) (he : starEach (e :: es) X.env = (false, eval e X.env) :: starEach es X.env := by rfl) (hpl : (backTo pos (starEach es X.env)).any (·.1) = false := by rfl) :
    PE X (.Call (.Name x p) (e :: es) [] pos) (lft X.K Z (dCallM m i ga)) := PEimp (pe_call F hr hg hm hk hb .nil hx (pa_cons h1 ha he) hdb he hpl) fun _ _ _ h => lift_callM h
/-- .. of a function that makes a list of its own -/
theorem fcall {m : List PyData → Option (List PyData)} (F : FnOk X.prog X.w X.K X.mg X.base CX0 k f fd ps (spF X.K m)) (hr : Room k X.A) (hg : Gl X x) (hm : X.mg x = some (.ref f)) (hk : PySem.W.keepIn X.K (.ref f) = true) (hb : Binds X.K fd ps []) (ha : PA X (e :: es) (lfA X.K Z ga)) (hx : Passes CX0 X E0 := by exact pass0)
    (hdb : (x == ("__debug__" : Str)) = false := by decide) (he : starEach (e :: es) X.env = (false, eval e X.env) :: starEach es X.env := by rfl) (hpl : (backTo pos (starEach es X.env)).any (·.1) = false := by rfl) :
    PE X (.Call (.Name x p) (e :: es) [] pos) (lfF X.K Z (fCall m ga)) := PEimp (pe_call F hr hg hm hk hb .nil hx ha hdb he hpl) fun σ H Q h => by
  obtain ⟨M, s, d, s', rl, hf, k⟩ := h
  unfold fCall at hf
  simp only [Option.bind_eq_some_iff, Option.map_eq_some_iff] at hf
  obtain ⟨⟨ds, s1⟩, h1, d1, h2, h3⟩ := hf
  cases h3
  refine ⟨M, s, ds, _, rl, h1, fun vs H1 k1 r1 t1 => ?_⟩
  show spF X.K m (vs ++ []) H1 Q E0
  rw [List.append_nil]
  refine ⟨Mu Z M, ds, _, r1.muT, t1, h2, fun q xs H2 hq g2 g3 t2 => ?_⟩
  have hq0 : H q = none := by
    cases w : H q with
    | none => rfl
    | some o =>
      by_cases m : Mu Z M q
      · obtain ⟨u, e⟩ := r1.muT q m
        rw [hq] at e; cases e
      · have := (k1.kp q o w m).1
        rw [hq] at this; cases this
  have kp2 : Kp (fun a => Mu Z M a ∨ a = q) H2 (Mu (Z.add q) M) H2 := fun a o e n => ⟨e, fun z => n (mu_add.mp z)⟩
  -- the state behind: all stood ahead of q
  have r2 : Rel X.K (Z.add q) M σ H2 s1 := by
    have kq : Kp (Mu Z M) H1 (Mu (Z.add q) M) H2 := fun a o e n => ⟨g2 a o e, fun z => (mu_add.mp z).elim n (ne_of_none e hq)⟩
    refine ⟨fun a o e n => g2 a o (r1.base a o e n), fun a ha => ?_, fun a ha => ?_, fun a ha => let ⟨o, e⟩ := r1.pt a ha; ⟨o, g2 a o e⟩, ?_⟩
    · obtain ⟨f1, f2, f3, o, f4⟩ := r1.fr a ha
      exact ⟨f1, f2, fun z => z.elim f3 (ne_of_none f4 hq), o, g2 a o f4⟩
    · rcases ha with ha | ha
      · obtain ⟨o, e⟩ := r1.mz a ha
        exact ⟨o, g2 a o e⟩
      · rw [ha]; exact ⟨_, g3⟩
    · exact r1.sl.kp kq (M := M) (fun a xs _ e => g2 _ _ e) (fun a xs _ e => g2 _ _ e) (fun _ h => h)
  exact k q xs H2 hq0 g3 (k1.trans (kq_grow g2)) r2 (t2.mono kp2)
end

/-! ### defs -/
def startS (N : List Str) (ds : List PyData) : Sl := ds.map SV.dat ++ List.replicate (N.length - ds.length) .no
def startM (N : List Str) (pd ds : List PyData) : Sl := SV.pot pd :: (ds.map SV.dat ++ List.replicate (N.length - 1 - ds.length) .no)
def outP : Option Fl → Option PyData
  | some (.rt d _) => some d
  | some (.nx _) => some .none
  | _ => none
def potOf : Option SV → Option (List PyData)
  | some (.pot pd) => some pd
  | _ => none
theorem potOf_eq {x : Option SV} {pd : List PyData} (h : potOf x = some pd) : x = some (.pot pd) := by
  unfold potOf at h
  split at h
  · cases h; rfl
  · cases h
def outM : Option Fl → Option (PyData × List PyData)
  | some (.rt d s) => (potOf s[0]?).map fun pd => (d, pd)
  | some (.nx s) => (potOf s[0]?).map fun pd => (.none, pd)
  | _ => none
/-- the meaning of a def by its body's -/
def fnP (N : List Str) (n : Nat) (b : DS) : List PyData → Option PyData := fun ds => if ds.length = n then outP (b (startS N ds)) else none
def fnM (N : List Str) (n : Nat) (b : DS) : List PyData → List PyData → Option (PyData × List PyData) := fun pd ds => if ds.length + 1 = n then outM (b (startM N pd ds)) else none
section
variable {P : Program} {w : World} {K : PySem.W.Frag} {mg : Str → Option Value} {base : Heap}
theorem slAll_nos {mu : Addr → Prop} {q : Option Addr} {H : Hp} : ∀ n : Nat, SlAll K mu q H (List.replicate n none) (List.replicate n .no) []
  | 0 => .nil
  | n + 1 => .no (slAll_nos n)
theorem slAll_start {mu : Addr → Prop} {q : Option Addr} {H : Hp} (n : Nat) : ∀ {vs : List V} {ds : List PyData}, DtAll K mu H vs ds → SlAll K mu q H (vs.map some ++ List.replicate n none) (ds.map SV.dat ++ List.replicate n .no) []
  | _, _, .nil => slAll_nos n
  | _, _, .cons h t => .dat h (slAll_start n t)
/-- a def of data -/
theorem okP {x qual : Str} {st : Stmt} {f : Addr} {fd : FuncData} {N ps : List Str} {k : Nat} {b : DS} (F : Fun K x qual st f fd) (S : FnScope N ps (defScope st))
    (hb : ∀ (cdv : Value) (A : Around) (outer : List Env) (s : Shared) (H : Hp) (E : XK) (Z : Par), Room k (A.deeper (envOfC qual (defScope st) s.heap.objs.size f cdv)) → PSs (cxOf CX0 P w K mg base N qual (defScope st) f cdv A outer s H E).nox (defBody st) (lfS K Z b)) :
    FnOk P w K mg base CX0 (k + 1) f fd ps (spP K (fnP N ps.length b)) := by
  refine F.ok S (fun vs H Q E h => ?_) (fun cdv A outer s H vs Q E hr h => ?_)
  · obtain ⟨mu, ds, d, h1, h2, h3, h4⟩ := h
    unfold fnP at h3
    split at h3
    · rename_i hl
      rw [h2.len]; exact hl
    · cases h3
  · obtain ⟨mu, ds, d, h1, h2, h3, h4⟩ := h
    unfold fnP at h3
    split at h3
    case isFalse => cases h3
    rename_i hl
    let Z : Par := ⟨H, none, mu⟩
    refine ⟨_, hb cdv A outer s H E Z hr, [], startS N ds, ?_⟩
    have muE : ∀ a, Mu Z [] a → mu a := fun a q => by
      rcases q with q | q | q
      · exact q
      · cases q
      · cases q
    have r : Rel K Z [] (start N vs) H (startS N ds) := by
      refine ⟨fun a o e _ => e, fun a ha => (by cases ha), h1, fun a ha => (by cases ha), ?_⟩
      unfold startS L2.start
      rw [h2.len]
      exact slAll_start _ (h2.mono fun a o e n => ⟨e, fun z => n (muE a z)⟩)
    unfold outP at h3
    split at h3
    · rename_i d1 s1 hq
      cases h3
      refine ⟨_, r, hq, fun M σ H1 v k1 r1 t1 => h4 v H1 (fun a o e => r1.base a o e (fun z => by cases z)) (t1.mono fun a o e n => ⟨e, fun z => n (.inl z)⟩)⟩
    · rename_i s1 hq
      cases h3
      refine ⟨_, r, hq, fun M σ H1 k1 r1 => h4 _ H1 (fun a o e => r1.base a o e (fun z => by cases z)) .non⟩
    · cases h3
/-- a def that changes the list handed in first -/
theorem okM {x qual : Str} {st : Stmt} {f : Addr} {fd : FuncData} {N ps : List Str} {k : Nat} {b : DS} (F : Fun K x qual st f fd) (S : FnScope N ps (defScope st))
    (hb : ∀ (cdv : Value) (A : Around) (outer : List Env) (s : Shared) (H : Hp) (E : XK) (Z : Par), Room k (A.deeper (envOfC qual (defScope st) s.heap.objs.size f cdv)) → PSs (cxOf CX0 P w K mg base N qual (defScope st) f cdv A outer s H E).nox (defBody st) (lfS K Z b)) :
    FnOk P w K mg base CX0 (k + 1) f fd ps (spM K (fnM N ps.length b)) := by
  refine F.ok S (fun vs H Q E h => ?_) (fun cdv A outer s H vs Q E hr h => ?_)
  · obtain ⟨mu, p, xs, pd, rest, ds, d, pd', rfl, h0, h1, h2, h3, h4, h5, h6⟩ := h
    unfold fnM at h5
    split at h5
    · rename_i hl
      rw [List.length_cons, h4.len]; exact hl
    · cases h5
  · obtain ⟨mu, p, xs, pd, rest, ds, d, pd', rfl, h0, h1, h2, h3, h4, h5, h6⟩ := h
    unfold fnM at h5
    split at h5
    case isFalse => cases h5
    rename_i hl
    let Z : Par := ⟨H, some p, mu⟩
    refine ⟨_, hb cdv A outer s H E Z hr, [], startM N pd ds, ?_⟩
    have muE : ∀ a, Mu Z [] a → mu a := fun a q => by
      rcases q with q | q | q
      · exact q
      · cases q; exact h0
      · cases q
    have kk : Kp mu H (Mu Z []) H := fun a o e n => ⟨e, fun z => n (muE a z)⟩
    have r : Rel K Z [] (start N (.ref p :: rest)) H (startM N pd ds) := by
      refine ⟨fun a o e _ => e, fun a ha => (by cases ha), h1, fun a ha => (by cases ha; exact ⟨_, h2⟩), ?_⟩
      unfold startM L2.start
      have e : N.length - (V.ref p :: rest).length = N.length - 1 - ds.length := by rw [List.length_cons, h4.len]; omega
      rw [e]
      exact .pot rfl h2 (h3.mono kk) (slAll_start _ (h4.mono kk))
    have fin : ∀ {M : List Addr} {σ : L2.St} {H1 : Hp} {s1 : Sl} {pd1 : List PyData}, Rel K Z M σ H1 s1 → s1[0]? = some (.pot pd1) → ∃ xs1, H1 p = some (.lst xs1) ∧ DtAll K mu H1 xs1 pd1 := fun {M σ H1 s1 pd1} r1 e => by
      obtain ⟨a, xs1, _, e2, e3, e4⟩ := r1.sl.getPot e
      cases e2
      exact ⟨xs1, e3, e4.mono fun a o e n => ⟨e, fun z => n (.inl z)⟩⟩
    have bs : ∀ {M : List Addr} {σ : L2.St} {H1 : Hp} {s1 : Sl}, Rel K Z M σ H1 s1 → ∀ a o, H a = some o → a ≠ p → H1 a = some o := fun r1 a o e n => r1.base a o e (fun z => n (by cases z; rfl))
    unfold outM at h5
    split at h5
    · rename_i d1 s1 hq
      simp only [Option.map_eq_some_iff] at h5
      obtain ⟨pd1, hp, h5⟩ := h5
      cases h5
      refine ⟨_, r, hq, fun M σ H1 v k1 r1 t1 => ?_⟩
      obtain ⟨xs1, e1, e2⟩ := fin r1 (potOf_eq hp)
      exact h6 v H1 xs1 (bs r1) e1 e2 (t1.mono fun a o e n => ⟨e, fun z => n (.inl z)⟩)
    · rename_i s1 hq
      simp only [Option.map_eq_some_iff] at h5
      obtain ⟨pd1, hp, h5⟩ := h5
      cases h5
      refine ⟨_, r, hq, fun M σ H1 k1 r1 => ?_⟩
      obtain ⟨xs1, e1, e2⟩ := fin r1 (potOf_eq hp)
      exact h6 _ H1 xs1 (bs r1) e1 e2 .non
    · cases h5
end
end Dl

namespace PySem.SeqAt
open AutoSeq1 (wpAny_loadPart')
open MeetsSeq MeetsSeq2 MeetsSeq3 SeqRoads2
theorem dict_declines_str (l : Addr) (o : Obj) (b : Str) (u : Tok) :
    Meets (Builtin.«dict.__eq__» ⟨[.ref l, .str b u], []⟩) (fun _ R s => (s.heap.get? l = some o ∧ o.cls = .type "dict") ∧ R (.ok (.ret .notImplemented)) s) :=
  .of_wp fun prog w A R s h => by
    obtain ⟨hp, g, d, tk, os⟩ := s
    obtain ⟨⟨hl, hc⟩, h⟩ := h
    obtain ⟨cls, dd, dt, sl⟩ := o
    simp only at hc
    subst hc
    have f1 := F.sub_str_dict
    wp_walk using wpAny_loadPart' hl, wpAny_load hl
    exact ⟨_, rfl, h⟩
theorem str_declines_dict (b : Str) (u : Tok) (l : Addr) (o : Obj) :
    Meets (Builtin.«str.__eq__» ⟨[.str b u, .ref l], []⟩) (fun _ R s => (s.heap.get? l = some o ∧ ∃ es ep, o.data = .dict es ep) ∧ R (.ok (.ret .notImplemented)) s) :=
  .of_wp fun prog w A R s h => by
    obtain ⟨hp, g, d, tk, os⟩ := s
    obtain ⟨⟨hl, es, ep, hd⟩, h⟩ := h
    obtain ⟨cls, dd, dt, sl⟩ := o
    simp only at hd
    subst hd
    wp_walk using wpAny_loadPart' hl, wpAny_load hl
    exact ⟨_, rfl, h⟩
section
variable {A : Around} {s : Shared}
def IsD (h : Heap) (l : Addr) : Prop := ∃ o, h.get? l = some o ∧ o.cls = .type "dict" ∧ ∃ es ep, o.data = .dict es ep
theorem RcAt.dict_str {l : Addr} (b : Str) (u : Tok) (hl : IsD s.heap l) (hu : A.units < cLine) : RcAt A s (.ref l) (.str b u) false := fun prog w E Q h => by
  obtain ⟨o, ho, hc, hd⟩ := hl
  exact rc_eq_decline_or (k := false) ⟨_, ho, hc⟩ (typeIs_str s b u) (by decide) F.sub_str_dict F.slot_dict_eq F.slot_str_eq_refl
    (fun _ hq => call_meets F.slot_dict_eq ⟨_, ho, hc⟩ F.entry_dict_eq (F.args_dict_eq_2 _ _) (dict_declines_str l o b u) ⟨⟨ho, hc⟩, hq⟩)
    (fun _ hq => call_meets F.slot_str_eq_refl (typeIs_str s b u) F.entry_str_eq (F.args_str_eq_2 _ _) (str_declines_dict b u l o) ⟨⟨ho, hd⟩, hq⟩)
    (fun _ hq => wpAny_of_eq (rfl : isSame (.ref l) (.str b u) = pure false) hq) (.inr hu) h
theorem EqAt.dict_str {l : Addr} (b : Str) (u : Tok) (hl : IsD s.heap l) (hu : A.units < cLine) : EqAt A s (.ref l) (.str b u) false := fun prog w E Q h => by
  unfold eqBool
  refine wpAny_holding ?_
  refine wpAny_ite_split (fun hab => absurd (eq_of_beq hab) nofun) (fun _ => ?_)
  exact wpAny_bind (RcAt.dict_str b u hl hu prog w E _ (wpAny_truthy_bool h))
theorem RcAt.str_dict {l : Addr} (b : Str) (u : Tok) (hl : IsD s.heap l) (hu : A.units < cLine) : RcAt A s (.str b u) (.ref l) false := fun prog w E Q h => by
  obtain ⟨o, ho, hc, hd⟩ := hl
  exact rc_eq_decline_or (k := false) (typeIs_str s b u) ⟨_, ho, hc⟩ (by decide) F.sub_dict_str F.slot_str_eq F.slot_dict_eq_refl
    (fun _ hq => call_meets F.slot_str_eq (typeIs_str s b u) F.entry_str_eq (F.args_str_eq_2 _ _) (str_declines_dict b u l o) ⟨⟨ho, hd⟩, hq⟩)
    (fun _ hq => call_meets F.slot_dict_eq_refl ⟨_, ho, hc⟩ F.entry_dict_eq (F.args_dict_eq_2 _ _) (dict_declines_str l o b u) ⟨⟨ho, hc⟩, hq⟩)
    (fun _ hq => wpAny_of_eq (rfl : isSame (.str b u) (.ref l) = pure false) hq) (.inr hu) h
theorem EqAt.str_dict {l : Addr} (b : Str) (u : Tok) (hl : IsD s.heap l) (hu : A.units < cLine) : EqAt A s (.str b u) (.ref l) false := fun prog w E Q h => by
  unfold eqBool
  refine wpAny_holding ?_
  refine wpAny_ite_split (fun hab => absurd (eq_of_beq hab) nofun) (fun _ => ?_)
  exact wpAny_bind (RcAt.str_dict b u hl hu prog w E _ (wpAny_truthy_bool h))
end
end PySem.SeqAt

namespace Dl
open PySem PySem.Spec PyProof.Rows L2

/-! ### operators on trees -/
def gAdd : PyData → PyData → Option PyData
  | .int a, .int b => some (.int (a + b))
  | .str a, .str b => if a.length + b.length ≤ sizeLine then some (.str (a ++ b)) else none
  | .tuple a, .tuple b => if a.length + b.length ≤ sizeLine then some (.tuple (a ++ b)) else none
  | .list a, .list b => if a.length + b.length ≤ sizeLine then some (.list (a ++ b)) else none
  | _, _ => none
def gInt (g : Int → Int → Option Int) : PyData → PyData → Option PyData
  | .int a, .int b => (g a b).map .int
  | _, _ => none
def gSub : PyData → PyData → Option PyData := gInt fun a b => some (a - b)
def gMul : PyData → PyData → Option PyData := gInt fun a b => if (a.natAbs.log2 + b.natAbs.log2 < 1000000) then some (a * b) else none
def gDiv : PyData → PyData → Option PyData := gInt fun a b => if (0 < b ∧ b.natAbs.log2 < 9000) then some (a / b) else none
def gMod : PyData → PyData → Option PyData := gInt fun a b => if 0 < b then some (a % b) else none
def gPow : PyData → PyData → Option PyData := gInt fun a b => if 0 ≤ b ∧ ((a.natAbs.log2 + 1 : Nat) : Int) * b ≤ 2 ^ 27 then some (a ^ b.toNat) else none
def gCmpI (p : Int → Int → Bool) : PyData → PyData → Option PyData
  | .int a, .int b => some (.bool (p a b))
  | _, _ => none
def gLe : PyData → PyData → Option PyData
  | .int a, .int b => some (.bool (decide (a ≤ b)))
  | .str a, .str b => some (.bool (!decide (b.cps.toList < a.cps.toList)))
  | _, _ => none
def gLt : PyData → PyData → Option PyData
  | .int a, .int b => some (.bool (decide (a < b)))
  | .str a, .str b => some (.bool (decide (a.cps.toList < b.cps.toList)))
  | _, _ => none
def gGe : PyData → PyData → Option PyData := gCmpI fun a b => decide (b ≤ a)
def gGt : PyData → PyData → Option PyData := gCmpI fun a b => decide (b < a)

section
variable {X : Cx} {K : PySem.W.Frag}
theorem gInt_some {g : Int → Int → Option Int} {d1 d2 d : PyData} (h : gInt g d1 d2 = some d) : ∃ a b c, d1 = .int a ∧ d2 = .int b ∧ g a b = some c ∧ d = .int c := by
  unfold gInt at h
  split at h
  · simp only [Option.map_eq_some_iff] at h
    obtain ⟨c, h1, h2⟩ := h
    exact ⟨_, _, c, rfl, rfl, h1, h2.symm⟩
  · cases h
theorem okI {C : Int → Int → Prop} {g : Int → Int → Int} {g' : Int → Int → Option Int} (h : ∀ a b c, g' a b = some c → C a b ∧ c = g a b) : OpOk K (rI C fun i j => .int (g i j)) (gInt g') := fun mu H x y d1 d2 d Q hm t1 t2 e k => by
  obtain ⟨a, b, c, rfl, rfl, e1, rfl⟩ := gInt_some e
  obtain ⟨h1, rfl⟩ := h a b c e1
  exact ⟨a, b, t1.inti, t2.inti, h1, k _ H (fun _ _ z => z) (.int _)⟩
theorem okI0 {g : Int → Int → Int} {g' : Int → Int → Option Int} (h : ∀ a b c, g' a b = some c → c = g a b) : OpOk K (rI0 fun i j => .int (g i j)) (gInt g') := fun mu H x y d1 d2 d Q hm t1 t2 e k => by
  obtain ⟨a, b, c, rfl, rfl, e1, rfl⟩ := gInt_some e
  have := h a b c e1
  subst this
  exact ⟨a, b, t1.inti, t2.inti, k _ H (fun _ _ z => z) (.int _)⟩
theorem okB0 {p : Int → Int → Bool} : OpOk K (rI0 fun i j => .bl (p i j)) (gCmpI p) := fun mu H x y d1 d2 d Q hm t1 t2 e k => by
  unfold gCmpI at e
  split at e
  · cases e
    exact ⟨_, _, t1.inti, t2.inti, k _ H (fun _ _ z => z) (.bl _)⟩
  · cases e
theorem ok_sub : OpOk K (rI0 fun i j => .int (i - j)) gSub := okI0 fun a b c h => by cases h; rfl
theorem ok_mul : OpOk K (rI CMulW fun i j => .int (i * j)) gMul := okI fun a b c h => by
  split at h
  · cases h; exact ⟨by assumption, rfl⟩
  · cases h
theorem ok_div : OpOk K (rI CDivW fun i j => .int (i / j)) gDiv := okI fun a b c h => by
  split at h
  · cases h; exact ⟨by assumption, rfl⟩
  · cases h
theorem ok_mod : OpOk K (rI (fun _ j => 0 < j) fun i j => .int (i % j)) gMod := okI fun a b c h => by
  split at h
  · cases h; exact ⟨by assumption, rfl⟩
  · cases h
def CPowW (i j : Int) : Prop := 0 ≤ j ∧ ((i.natAbs.log2 + 1 : Nat) : Int) * j ≤ 2 ^ 27
theorem op_powW : OpR X (binaryOp .Pow) (rI CPowW fun i j => .int (i ^ j.toNat)) := opI fun i j _ _ _ _ _ hc q => pow_int hc.1 (by
  have e : Builtin.Int.intBits i ≤ i.natAbs.log2 + 1 := by
    unfold Builtin.Int.intBits
    split <;> omega
  have h1 : (Builtin.Int.intBits i : Int) ≤ ((i.natAbs.log2 + 1 : Nat) : Int) := Int.ofNat_le.mpr e
  exact Int.le_trans (Int.mul_le_mul_of_nonneg_right h1 hc.1) hc.2) q
theorem ok_pow : OpOk K (rI CPowW fun i j => .int (i ^ j.toNat)) gPow := okI fun a b c h => by
  split at h
  · cases h; exact ⟨by assumption, rfl⟩
  · cases h
theorem ok_ge : OpOk K (rI0 fun i j => .bl (decide (j ≤ i))) gGe := okB0
theorem ok_gt : OpOk K (rI0 fun i j => .bl (decide (j < i))) gGt := okB0
def rLeA : R2 := fun x y H Q => (∃ i j, x = .int i ∧ y = .int j ∧ Q (.bl (decide (i ≤ j))) H) ∨ ∃ i j, x = .str i ∧ y = .str j ∧ Q (.bl (!decide (j.cps.toList < i.cps.toList))) H
theorem op_leA : OpR X (compareOp .LtE) rLeA := OpR.or op_le op_le_str
theorem ok_le : OpOk K rLeA gLe := fun mu H x y d1 d2 d Q hm t1 t2 e k => by
  unfold gLe at e
  split at e
  · cases e; exact .inl ⟨_, _, t1.inti, t2.inti, k _ H (fun _ _ z => z) (.bl _)⟩
  · cases e; exact .inr ⟨_, _, t1.text, t2.text, k _ H (fun _ _ z => z) (.bl _)⟩
  · cases e
def rLtA : R2 := fun x y H Q => (∃ i j, x = .int i ∧ y = .int j ∧ Q (.bl (decide (i < j))) H) ∨ ∃ i j, x = .str i ∧ y = .str j ∧ Q (.bl (decide (i.cps.toList < j.cps.toList))) H
theorem op_ltA : OpR X (compareOp .Lt) rLtA := OpR.or op_lt op_lt_str
theorem ok_lt : OpOk K rLtA gLt := fun mu H x y d1 d2 d Q hm t1 t2 e k => by
  unfold gLt at e
  split at e
  · cases e; exact .inl ⟨_, _, t1.inti, t2.inti, k _ H (fun _ _ z => z) (.bl _)⟩
  · cases e; exact .inr ⟨_, _, t1.text, t2.text, k _ H (fun _ _ z => z) (.bl _)⟩
  · cases e
/-- + -/
def rCatR : R2 := fun x y H Q => ∃ l b xs zs, x = .ref l ∧ y = .ref b ∧ Rd H l (.lst xs) ∧ Rd H b (.lst zs) ∧ xs.length + zs.length ≤ sizeLine ∧ ∀ p, H p = none → Q (.ref p) (upd H p (.lst (xs ++ zs)))
theorem op_catR : OpR X (binaryOp .Add) rCatR := fun pins s σ H x y v u Q I rx ry ⟨l, b, xs, zs, ex, ey, h1, h2, hz, q⟩ => by
  subst ex ey
  cases rx
  cases ry
  obtain ⟨z1, its, n, r, e⟩ := h1.ok I.hok
  obtain ⟨z2, its2, n2, r2, e2⟩ := h2.ok I.hok
  have l1 := r.length
  have l2 := r2.length
  refine PySem.P.add_list e e2 ?_ (by rw [List.size_toArray, List.size_toArray]; omega)
  rw [show its.toArray ++ its2.toArray = (its ++ its2).toArray by simp]
  exact ⟨.ref _, _, I.lnew (t' := s.toks) (r.append r2) (by rw [List.length_append]; omega), rfl, q _ I.fresh⟩
def rAddA (K : PySem.W.Frag) : R2 := fun x y H Q => ((∃ i j, x = .int i ∧ y = .int j ∧ Q (.int (i + j)) H) ∨ ∃ i j, x = .str i ∧ y = .str j ∧ i.length + j.length ≤ sizeLine ∧ Q (.str (i ++ j)) H) ∨ (rCatA K x y H Q ∨ rCatR x y H Q)
theorem op_addA : OpR X (binaryOp .Add) (rAddA X.K) := OpR.or (OpR.or op_add op_add_str) (OpR.or op_catA op_catR)
theorem ok_add : OpOk K (rAddA K) gAdd := fun mu H x y d1 d2 d Q hm t1 t2 e k => by
  unfold gAdd at e
  split at e
  · cases e; exact .inl (.inl ⟨_, _, t1.inti, t2.inti, k _ H (fun _ _ z => z) (.int _)⟩)
  · split at e
    · cases e; exact .inl (.inr ⟨_, _, t1.text, t2.text, by assumption, k _ H (fun _ _ z => z) (.str _)⟩)
    · cases e
  · rename_i ds es
    split at e
    case isFalse => cases e
    rename_i hz
    cases e
    obtain ⟨a, xs, ea, h1, u1⟩ := t1.tuple
    obtain ⟨b, ys, eb, h2, u2⟩ := t2.tuple
    subst ea eb
    refine .inr (.inl ⟨a, b, xs, ys, rfl, rfl, h1, h2, by rw [u1.len, u2.len]; exact hz, fun hx => ?_, fun _ hy => ?_, fun _ _ p hp => ?_⟩)
    · subst hx
      cases u1
      exact k _ H (fun _ _ z => z) t2
    · subst hy
      cases u2
      rw [List.append_nil] at k
      exact k _ H (fun _ _ z => z) t1
    · exact k _ _ (grow_new hp) (dt_newT hm hp (u1.append u2))
  · rename_i ds es
    split at e
    case isFalse => cases e
    rename_i hz
    cases e
    obtain ⟨a, xs, ea, h1, u1⟩ := t1.listR
    obtain ⟨b, ys, eb, h2, u2⟩ := t2.listR
    subst ea eb
    exact .inr (.inr ⟨a, b, xs, ys, rfl, rfl, h1, h2, by rw [u1.len, u2.len]; exact hz, fun p hp => k _ _ (grow_new hp) (dt_newL hm hp (u1.append u2))⟩)
  · cases e

/-! ### an item, by its place -/
def gIx : PyData → PyData → Option PyData
  | .list ds, .int i => atI ds i
  | .tuple ds, .int i => atI ds i
  | .str x, .int i => if x.length ≤ sizeLine then (atI x.cps.toList i).map fun c => .str ⟨#[c]⟩ else none
  | .dict [(.none, .list ds)], .int i => atI ds i
  | _, _ => none
theorem ok_ix : OpOk K (rIx K) gIx := fun mu H x y d1 d2 d Q hm t1 t2 e k => by
  unfold gIx at e
  split at e
  · obtain ⟨a, xs, rfl, h1, u1⟩ := t1.list
    obtain ⟨v, e1, u2⟩ := atI_dt u1 e
    exact .inl ⟨a, xs, _, v, rfl, t2.inti, h1, e1, k _ H (fun _ _ z => z) u2⟩
  · obtain ⟨a, xs, rfl, h1, u1⟩ := t1.tuple
    obtain ⟨v, e1, u2⟩ := atI_dt u1 e
    exact .inr (.inl ⟨a, xs, _, v, rfl, t2.inti, h1, e1, k _ H (fun _ _ z => z) u2⟩)
  · split at e
    case isFalse => cases e
    rename_i hz
    simp only [Option.map_eq_some_iff] at e
    obtain ⟨c, e1, e2⟩ := e
    cases e2
    exact .inr (.inr ⟨_, _, c, t1.text, t2.inti, hz, e1, k _ H (fun _ _ z => z) (.str _)⟩)
  · obtain ⟨a, xs, rfl, h1, u1⟩ := t1.script
    obtain ⟨v, e1, u2⟩ := atI_dt u1 e
    exact .inl ⟨a, xs, _, v, rfl, t2.inti, h1, e1, k _ H (fun _ _ z => z) u2⟩
  · cases e

/-! ### built-ins -/
def gLen : List PyData → Option PyData
  | [.list ds] => some (.int ds.length)
  | [.tuple ds] => some (.int ds.length)
  | [.str x] => if x.length ≤ sizeLine then some (.int x.length) else none
  | [.dict [(.none, .list ds)]] => some (.int ds.length)
  | _ => none
theorem one_of {mu : Addr → Prop} {H : Hp} {xs : List V} {d : PyData} (t : DtAll K mu H xs [d]) : ∃ x, xs = [x] ∧ Dt K mu H x d := by
  cases t with
  | cons h r => cases r; exact ⟨_, rfl, h⟩
theorem two_of {mu : Addr → Prop} {H : Hp} {xs : List V} {d e : PyData} (t : DtAll K mu H xs [d, e]) : ∃ x y, xs = [x, y] ∧ Dt K mu H x d ∧ Dt K mu H y e := by
  cases t with
  | cons h r =>
    obtain ⟨y, rfl, h2⟩ := one_of r
    exact ⟨_, y, rfl, h, h2⟩
theorem ok_len : CallOk K (fun xs H Q => ∃ x n, xs = [x] ∧ LenV K x H n ∧ Q (.int n) H) gLen := fun mu H xs ds d Q hm t e k => by
  unfold gLen at e
  split at e
  · obtain ⟨x, rfl, t1⟩ := one_of t
    cases e
    obtain ⟨a, xs, rfl, h1, u1⟩ := t1.list
    exact ⟨_, _, rfl, .inl ⟨xs, h1, rfl⟩, by rw [u1.len]; exact k _ H (fun _ _ z => z) (.int _)⟩
  · obtain ⟨x, rfl, t1⟩ := one_of t
    cases e
    obtain ⟨a, xs, rfl, h1, u1⟩ := t1.tuple
    exact ⟨_, _, rfl, .inr ⟨xs, h1, rfl⟩, by rw [u1.len]; exact k _ H (fun _ _ z => z) (.int _)⟩
  · obtain ⟨x, rfl, t1⟩ := one_of t
    split at e
    case isFalse => cases e
    cases e
    exact ⟨_, _, rfl, (show LenV K x H _ by rw [t1.text]; exact ⟨by assumption, rfl⟩), k _ H (fun _ _ z => z) (.int _)⟩
  · obtain ⟨x, rfl, t1⟩ := one_of t
    cases e
    obtain ⟨a, xs, rfl, h1, u1⟩ := t1.script
    exact ⟨_, _, rfl, .inl ⟨xs, h1, rfl⟩, by rw [u1.len]; exact k _ H (fun _ _ z => z) (.int _)⟩
  · cases e
def gAbs : List PyData → Option PyData
  | [.int i] => some (.int (if i < 0 then -i else i))
  | _ => none
theorem ok_abs : CallOk K (fun xs H Q => ∃ i, xs = [.int i] ∧ Q (.int (if i < 0 then -i else i)) H) gAbs := fun mu H xs ds d Q hm t e k => by
  unfold gAbs at e
  split at e
  · obtain ⟨x, rfl, t1⟩ := one_of t
    cases e
    exact ⟨_, by rw [t1.inti], k _ H (fun _ _ z => z) (.int _)⟩
  · cases e
def gMax2 : List PyData → Option PyData
  | [.int i, .int j] => some (.int (if j > i then j else i))
  | _ => none
theorem ok_max2 : CallOk K (fun xs H Q => ∃ i j, xs = [.int i, .int j] ∧ Q (.int (if j > i then j else i)) H) gMax2 := fun mu H xs ds d Q hm t e k => by
  unfold gMax2 at e
  split at e
  · obtain ⟨x, y, rfl, t1, u⟩ := two_of t
    cases e
    exact ⟨_, _, by rw [t1.inti, u.inti], k _ H (fun _ _ z => z) (.int _)⟩
  · cases e
def gMin2 : List PyData → Option PyData
  | [.int i, .int j] => some (.int (if j < i then j else i))
  | _ => none
theorem ok_min2 : CallOk K (fun xs H Q => ∃ i j, xs = [.int i, .int j] ∧ Q (.int (if j < i then j else i)) H) gMin2 := fun mu H xs ds d Q hm t e k => by
  unfold gMin2 at e
  split at e
  · obtain ⟨x, y, rfl, t1, u⟩ := two_of t
    cases e
    exact ⟨_, _, by rw [t1.inti, u.inti], k _ H (fun _ _ z => z) (.int _)⟩
  · cases e
/-- int(..) of a number, of a truth -/
def gInt1 : List PyData → Option PyData
  | [.int i] => some (.int i)
  | [.bool b] => some (.int (if b then 1 else 0))
  | _ => none
theorem ok_int1 : CallOk K (fun xs H Q => (∃ i, xs = [.int i] ∧ Q (.int i) H) ∨ ∃ k, xs = [.bl k] ∧ Q (.int (if k then 1 else 0)) H) gInt1 := fun mu H xs ds d Q hm t e k => by
  unfold gInt1 at e
  split at e
  · obtain ⟨x, rfl, t1⟩ := one_of t
    cases e
    exact .inl ⟨_, by rw [t1.inti], k _ H (fun _ _ z => z) (.int _)⟩
  · obtain ⟨x, rfl, t1⟩ := one_of t
    cases e
    exact .inr ⟨_, by rw [t1.bool], k _ H (fun _ _ z => z) (.int _)⟩
  · cases e
/-- all, any of a list of truths -/
def truths : List PyData → Option (List Bool)
  | [] => some []
  | .bool b :: r => (truths r).map (b :: ·)
  | _ :: _ => none
theorem truths_map : ∀ {ds : List PyData} {bs : List Bool}, truths ds = some bs → ds = bs.map .bool
  | [], bs, h => by cases h; rfl
  | d :: r, bs, h => by
    unfold truths at h
    split at h
    · cases h; simp_all
    · rename_i b r' e
      simp only [Option.map_eq_some_iff] at h
      obtain ⟨bs', h1, h2⟩ := h
      injection e with e1 e2
      subst e1 e2 h2
      rw [List.map_cons, ← truths_map h1]
    · cases h
def gAll : List PyData → Option PyData
  | [.list ds] => (truths ds).map fun bs => .bool (bs.all id)
  | _ => none
theorem ok_all : CallOk K (rAll K) gAll := fun mu H xs ds d Q hm t e k => by
  unfold gAll at e
  split at e
  · obtain ⟨x, rfl, t1⟩ := one_of t
    simp only [Option.map_eq_some_iff] at e
    obtain ⟨bs, e1, e2⟩ := e
    cases e2
    obtain ⟨a, xs, rfl, h1, u1⟩ := t1.list
    rw [truths_map e1] at u1
    rw [u1.bools] at h1
    exact ⟨a, bs, rfl, h1, k _ H (fun _ _ z => z) (.bl _)⟩
  · cases e
def gAny : List PyData → Option PyData
  | [.list ds] => (truths ds).map fun bs => .bool (bs.any id)
  | _ => none
theorem ok_any : CallOk K (rAny K) gAny := fun mu H xs ds d Q hm t e k => by
  unfold gAny at e
  split at e
  · obtain ⟨x, rfl, t1⟩ := one_of t
    simp only [Option.map_eq_some_iff] at e
    obtain ⟨bs, e1, e2⟩ := e
    cases e2
    obtain ⟨a, xs, rfl, h1, u1⟩ := t1.list
    rw [truths_map e1] at u1
    rw [u1.bools] at h1
    exact ⟨a, bs, rfl, h1, k _ H (fun _ _ z => z) (.bl _)⟩
  · cases e
def gTuple : List PyData → Option PyData
  | [.list ds] => some (.tuple ds)
  | [.tuple ds] => some (.tuple ds)
  | _ => none
theorem ok_tuple : CallOk K (fun xs H Q => ∃ p ys, xs = [.ref p] ∧ ((SqL K H p ys ∧ ∀ l, H l = none → Q (.ref l) (upd H l (.tup ys))) ∨ (SqT K H p ys ∧ Q (.ref p) H))) gTuple := fun mu H xs ds d Q hm t e k => by
  unfold gTuple at e
  split at e
  · obtain ⟨x, rfl, t1⟩ := one_of t
    cases e
    obtain ⟨a, xs, rfl, h1, u1⟩ := t1.list
    exact ⟨a, xs, rfl, .inl ⟨h1, fun l hl => k _ _ (grow_new hl) (dt_newT hm hl u1)⟩⟩
  · obtain ⟨x, rfl, t1⟩ := one_of t
    cases e
    obtain ⟨a, xs, e1, h1, u1⟩ := t1.tuple
    subst e1
    exact ⟨a, xs, rfl, .inr ⟨h1, k _ H (fun _ _ z => z) t1⟩⟩
  · cases e
def gList : List PyData → Option PyData
  | [.list ds] => some (.list ds)
  | [.tuple ds] => some (.list ds)
  | _ => none
theorem ok_list : CallOk K (fun xs H Q => ∃ p ys, xs = [.ref p] ∧ (SqL K H p ys ∨ SqT K H p ys) ∧ ∀ l, H l = none → Q (.ref l) (upd H l (.lst ys))) gList := fun mu H xs ds d Q hm t e k => by
  unfold gList at e
  split at e
  · obtain ⟨x, rfl, t1⟩ := one_of t
    cases e
    obtain ⟨a, xs, rfl, h1, u1⟩ := t1.list
    exact ⟨a, xs, rfl, .inl h1, fun l hl => k _ _ (grow_new hl) (dt_newL hm hl u1)⟩
  · obtain ⟨x, rfl, t1⟩ := one_of t
    cases e
    obtain ⟨a, xs, rfl, h1, u1⟩ := t1.tuple
    exact ⟨a, xs, rfl, .inr h1, fun l hl => k _ _ (grow_new hl) (dt_newL hm hl u1)⟩
  · cases e
end
end Dl

namespace Dl
open PySem PySem.Spec PyProof.Rows L2

/-! ### == with a text, in among texts -/
/-- what may stand beside a text -/
def Okv (K : PySem.W.Frag) (H : Hp) (x : V) : Prop := flatV x = true ∨ ∃ a, x = .ref a ∧ ((∃ xs, SqL K H a xs) ∨ (∃ xs, SqT K H a xs) ∨ ∃ kvs, H a = some (.dK kvs))
def isTx (z : Str) : V → Bool
  | .str y => y == z
  | _ => false
section
variable {X : Cx} {K : PySem.W.Frag} {pins : List (Addr × Obj)} {σ : L2.St} {H : Hp} {s : Shared}
theorem isD_of (I : Inv X pins σ H s) {a : Addr} {kvs : List (Key × V)} (h : H a = some (.dK kvs)) : SeqAt.IsD s.heap a := by
  obtain ⟨_, _, vs, _, o, es, ep, h1, h2, h3, _⟩ := (show ObjOk X.prog X.w H s.heap a (.dK kvs) from I.hok a _ h)
  exact ⟨o, h1, h2.1, es, ep, h3⟩
theorem eq_text1 (I : Inv X pins σ H s) {A : Around} (hu : A.units < cLine) {x : V} {v : Value} {z : Str} {t : Tok} (rx : RelV x v) (h : Okv X.K H x) : SeqAt.EqAt A s v (.str z t) (isTx z x) := by
  rcases h with h | ⟨a, rfl, h⟩
  · have e := eqAt_V (A := A) (s := s) (y := x) (x := .str z) (u := v) (v := .str z t) rx ⟨t, rfl⟩ h rfl
    have e2 : eqV x (.str z) = isTx z x := by cases x <;> rfl
    rw [e2] at e; exact e
  · cases rx
    rcases h with ⟨xs, h⟩ | ⟨xs, h⟩ | ⟨kvs, h⟩
    · obtain ⟨its, r, p, _⟩ := I.list h
      exact SeqAt.EqAt.list_str z t p.isList hu
    · obtain ⟨its, r, p, _⟩ := I.tuple h
      exact SeqAt.EqAt.tuple_str z t p hu
    · exact SeqAt.EqAt.dict_str z t (isD_of I h) hu
theorem eq_text2 (I : Inv X pins σ H s) {A : Around} (hu : A.units < cLine) {x : V} {v : Value} {z : Str} {t : Tok} (rx : RelV x v) (h : Okv X.K H x) : SeqAt.EqAt A s (.str z t) v (isTx z x) := by
  rcases h with h | ⟨a, rfl, h⟩
  · have e := eqAt_V (A := A) (s := s) (y := .str z) (x := x) (u := .str z t) (v := v) ⟨t, rfl⟩ rx rfl h
    have e2 : eqV (.str z) x = isTx z x := by
      cases x <;> first | rfl | skip
      rename_i y
      show (z == y) = (y == z)
      rw [Bool.eq_iff_iff, beq_iff_eq, beq_iff_eq]
      exact ⟨Eq.symm, Eq.symm⟩
    rw [e2] at e; exact e
  · cases rx
    rcases h with ⟨xs, h⟩ | ⟨xs, h⟩ | ⟨kvs, h⟩
    · obtain ⟨its, r, p, _⟩ := I.list h
      exact SeqAt.EqAt.str_list z t p.isList hu
    · obtain ⟨its, r, p, _⟩ := I.tuple h
      exact SeqAt.EqAt.str_tuple z t p hu
    · exact SeqAt.EqAt.str_dict z t (isD_of I h) hu
end
section
variable {X : Cx} {K : PySem.W.Frag}
def rEqS (K : PySem.W.Frag) : R2 := fun x y H Q => ∃ z, y = .str z ∧ Okv K H x ∧ Q (.bl (isTx z x)) H
theorem op_eqS (hu : X.A.units + 1 < cLine) : OpR X (compareOp .Eq) (rEqS X.K) := fun pins s σ H x y v u Q I rx ry ⟨z, ey, ok, q⟩ => by
  subst ey
  obtain ⟨t, rfl⟩ := ry
  rcases ok with h | ⟨a, rfl, h⟩
  · refine op_eq pins s σ H x (.str z) v (.str z t) Q I rx ⟨t, rfl⟩ ⟨?_, ?_⟩
    · cases x <;> first | rfl | cases h
    · have e : decide (x = .str z) = isTx z x := by
        cases x <;> first | rfl | (cases h; done) | skip
        rw [dec_str]
        rfl
      rw [e]; exact q
  · cases rx
    have fin : EP X pins σ Q (.bool false) s := ⟨.bl false, H, I, rfl, q⟩
    rcases h with ⟨xs, h⟩ | ⟨xs, h⟩ | ⟨kvs, h⟩
    · obtain ⟨its, r, p, _⟩ := I.list h
      exact SeqAt.RcAt.list_str z t p.isList (by omega) X.prog X.w _ _ fin
    · obtain ⟨its, r, p, _⟩ := I.tuple h
      exact SeqAt.RcAt.tuple_str z t p (by omega) X.prog X.w _ _ fin
    · exact SeqAt.RcAt.dict_str z t (isD_of I h) (by omega) X.prog X.w _ _ fin
/-- the answer for an item that is a text -/
def txU (x : V) (u : Value) : Bool := match u with
  | .str z _ => isTx z x
  | _ => false
theorem any_txU {x : V} : ∀ {zs : List Str} {us : List Value}, Vals (zs.map V.str) us → us.any (txU x) = zs.any fun z => isTx z x
  | [], _, .nil => rfl
  | z :: zs, _, .cons r t => by
    obtain ⟨k, rfl⟩ := r
    rw [List.any_cons, List.any_cons, any_txU t]
    rfl
theorem mem_txU {pins : List (Addr × Obj)} {σ : L2.St} {H : Hp} {s : Shared} (I : Inv X pins σ H s) {A : Around} (hu : A.units < cLine) {x : V} {v : Value} (rx : RelV x v) (ok : Okv X.K H x) : ∀ {zs : List Str} {us : List Value}, Vals (zs.map V.str) us → ∀ u ∈ us, SeqAt.EqAt A s u v (txU x u)
  | [], _, .nil => fun u hu => by cases hu
  | z :: zs, _, .cons r t => fun u' hm => by
    rcases List.mem_cons.mp hm with e | hm
    · obtain ⟨k, e2⟩ := r
      rw [e, e2]
      exact eq_text2 I hu rx ok
    · exact mem_txU I hu rx ok t u' hm
def rInTx (K : PySem.W.Frag) (neg : Bool) : R2 := fun x y H Q => ∃ p, ∃ zs : List Str, y = .ref p ∧ (SqL K H p (zs.map V.str) ∨ SqT K H p (zs.map V.str)) ∧ Okv K H x ∧ Q (.bl (if neg then !(zs.any fun z => isTx z x) else zs.any fun z => isTx z x)) H
theorem op_inTx (hu : X.A.units + 1 < cLine) : OpR X (compareOp .In) (rInTx X.K false) := fun pins s σ H x y v u Q I rx ry ⟨p, zs, ey, hq, ok, q⟩ => by
  subst ey
  cases ry
  have hu1 : X.A.in1.units < cLine := hu
  rcases hq with hq | hq
  · obtain ⟨its, r, pl, _⟩ := I.list hq
    refine SeqAt.in_listAt (txU x) pl.isList (fun w hw => mem_txU I hu1 rx ok r w (by simpa using hw)) ⟨.bl _, H, I, rfl, ?_⟩
    rw [show its.toArray.any (txU x) = its.any (txU x) by simp, any_txU r]; exact q
  · obtain ⟨its, r, pl, _⟩ := I.tuple hq
    refine SeqAt.in_tupleAt (txU x) pl (fun w hw => mem_txU I hu1 rx ok r w (by simpa using hw)) ⟨.bl _, H, I, rfl, ?_⟩
    rw [show its.toArray.any (txU x) = its.any (txU x) by simp, any_txU r]; exact q
theorem op_notInTx (hu : X.A.units + 1 < cLine) : OpR X (compareOp .NotIn) (rInTx X.K true) := fun pins s σ H x y v u Q I rx ry ⟨p, zs, ey, hq, ok, q⟩ => by
  subst ey
  cases ry
  have hu1 : X.A.in1.units < cLine := hu
  rcases hq with hq | hq
  · obtain ⟨its, r, pl, _⟩ := I.list hq
    refine SeqAt.notIn_listAt (txU x) pl.isList (fun w hw => mem_txU I hu1 rx ok r w (by simpa using hw)) ⟨.bl _, H, I, rfl, ?_⟩
    rw [show its.toArray.any (txU x) = its.any (txU x) by simp, any_txU r]; exact q
  · obtain ⟨its, r, pl, _⟩ := I.tuple hq
    refine SeqAt.notIn_tupleAt (txU x) pl (fun w hw => mem_txU I hu1 rx ok r w (by simpa using hw)) ⟨.bl _, H, I, rfl, ?_⟩
    rw [show its.toArray.any (txU x) = its.any (txU x) by simp, any_txU r]; exact q
end
/-- neither the script nor what holds it -/
def plainD : PyData → Bool
  | .dict kvs => realD kvs
  | _ => true
section
variable {X : Cx} {K : PySem.W.Frag} {mu : Addr → Prop} {H : Hp}
theorem okv_of {v : V} {d : PyData} (t : Dt K mu H v d) (r : plainD d = true) : Okv K H v := by
  cases t with
  | lst h _ _ => exact .inr ⟨_, rfl, .inl ⟨_, .inl h⟩⟩
  | scr _ _ => cases r
  | tup h _ _ => exact .inr ⟨_, rfl, .inr (.inl ⟨_, .inl (.inl h)⟩)⟩
  | tupK h _ _ => exact .inr ⟨_, rfl, .inr (.inl ⟨_, h H⟩)⟩
  | dct h _ _ => exact .inr ⟨_, rfl, .inr (.inr ⟨_, h⟩)⟩
  | dcT _ _ _ => cases r
  | exc _ _ => cases r
  | _ => exact .inl rfl
theorem isTx_eqv {v : V} {d : PyData} {z : Str} (t : Dt K mu H v d) : isTx z v = PyData.eqv d (.str z) := by
  cases t <;> simp [isTx, PyData.eqv]
def strsD : List PyData → Option (List Str)
  | [] => some []
  | .str x :: r => (strsD r).map (x :: ·)
  | _ :: _ => none
theorem strsD_map : ∀ {ds : List PyData} {zs : List Str}, strsD ds = some zs → ds = zs.map .str
  | [], zs, h => by cases h; rfl
  | d :: r, zs, h => by
    unfold strsD at h
    split at h
    · rename_i e; cases e
    · rename_i x r' e
      simp only [Option.map_eq_some_iff] at h
      obtain ⟨ws, h1, h2⟩ := h
      injection e with e1 e2
      subst e1 e2 h2
      rw [List.map_cons, ← strsD_map h1]
    · cases h
/-- in, not in -/
def inD (neg : Bool) (d : PyData) (ds : List PyData) : Option PyData :=
  if scalD d = true ∧ ds.all scalD = true then some (.bool (if neg then !ds.any (fun z => PyData.eqv z d) else ds.any fun z => PyData.eqv z d))
  else if plainD d = true then (strsD ds).map fun zs => .bool (if neg then !(zs.any fun z => PyData.eqv d (.str z)) else zs.any fun z => PyData.eqv d (.str z)) else none
def gIn (neg : Bool) : PyData → PyData → Option PyData
  | d, .list ds => inD neg d ds
  | d, .tuple ds => inD neg d ds
  | .str x, .str z => if x.cps.size = 1 then some (.bool (if neg then !decide (x.cps.getD 0 0 ∈ z.cps.toList) else decide (x.cps.getD 0 0 ∈ z.cps.toList))) else none
  | _, _ => none
def rInA (K : PySem.W.Frag) (neg : Bool) : R2 := fun x y H Q => (rIn K neg x y H Q ∨ rInTx K neg x y H Q) ∨ ∃ (c : Nat) (z : Str), x = .str ⟨#[c]⟩ ∧ y = .str z ∧ Q (.bl (if neg then !decide (c ∈ z.cps.toList) else decide (c ∈ z.cps.toList))) H
theorem op_inA (hu : X.A.units + 1 < cLine) : OpR X (compareOp .In) (rInA X.K false) := OpR.or (OpR.or op_in_seq (op_inTx hu)) op_in_sign
theorem op_notInA (hu : X.A.units + 1 < cLine) : OpR X (compareOp .NotIn) (rInA X.K true) := OpR.or (OpR.or op_notIn_seq (op_notInTx hu)) op_notIn_sign
theorem inD_ok {neg : Bool} {x : V} {d1 d : PyData} {ds : List PyData} {p : Addr} {xs : List V} {Q : VK} (t1 : Dt K mu H x d1) (h1 : SqL K H p xs ∨ SqT K H p xs) (u : DtAll K mu H xs ds) (e : inD neg d1 ds = some d)
    (k : ∀ v H', (∀ a o, H a = some o → H' a = some o) → Dt K mu H' v d → Q v H') : rInA K neg x (.ref p) H Q := by
  unfold inD at e
  split at e
  · rename_i hc
    cases e
    refine .inl (.inl ⟨p, xs, rfl, h1, scal_v t1 hc.1, scal_vs u hc.2, ?_⟩)
    rw [scal_any t1 hc.1 u hc.2]
    exact k _ H (fun _ _ z => z) (.bl _)
  · split at e
    case isFalse => cases e
    rename_i hp
    simp only [Option.map_eq_some_iff] at e
    obtain ⟨zs, e1, e2⟩ := e
    subst e2
    rw [strsD_map e1] at u
    rw [u.texts] at h1
    refine .inl (.inr ⟨p, zs, rfl, h1, okv_of t1 hp, ?_⟩)
    have q : (zs.any fun z => isTx z x) = zs.any fun z => PyData.eqv d1 (.str z) := by
      congr 1
      funext z
      exact isTx_eqv t1
    rw [q]
    exact k _ H (fun _ _ z => z) (.bl _)
theorem ok_in {neg : Bool} : OpOk K (rInA K neg) (gIn neg) := fun mu H x y d1 d2 d Q hm t1 t2 e k => by
  unfold gIn at e
  split at e
  · obtain ⟨p, xs, rfl, h1, u⟩ := t2.list
    exact inD_ok t1 (.inl h1) u e k
  · obtain ⟨p, xs, rfl, h1, u⟩ := t2.tuple
    exact inD_ok t1 (.inr h1) u e k
  · rename_i x1 z1
    split at e
    case isFalse => cases e
    rename_i hc
    cases e
    have ex : x1 = ⟨#[x1.cps.getD 0 0]⟩ := by
      obtain ⟨⟨l⟩⟩ := x1
      cases l with
      | nil => simp at hc
      | cons c r =>
        cases r with
        | nil => rfl
        | cons _ _ => simp at hc
    exact .inr ⟨x1.cps.getD 0 0, z1, by rw [t1.text, ← ex], t2.text, k _ H (fun _ _ z => z) (.bl _)⟩
  · cases e

/-! ### ==, != of data -/
mutual
/-- no dict in it -/
def noDct : PyData → Bool
  | .dict _ => false
  | .list xs => noDcts xs
  | .tuple xs => noDcts xs
  | _ => true
def noDcts : List PyData → Bool
  | [] => true
  | x :: xs => noDct x && noDcts xs
end
mutual
theorem Dt.dp : ∀ {v : V} {d : PyData}, Dt K mu H v d → noDct d = true → Dp K H v d
  | _, _, .non, _ => .non
  | _, _, .bl b, _ => .bl b
  | _, _, .int i, _ => .int i
  | _, _, .str x, _ => .str x
  | _, _, .lst h n t, e => .lst (.inl h) (DtAll.dp t (by simpa [noDct] using e))
  | _, _, .tup h n t, e => .tup (.inl (.inl h)) (DtAll.dp t (by simpa [noDct] using e))
  | _, _, .tupK h _ t, e => .tup (h H) (DtAll.dp t (by simpa [noDct] using e))
  | _, _, .scr h t, e => by simp [noDct] at e
  | _, _, .dct h n t, e => by simp [noDct] at e
theorem DtAll.dp : ∀ {vs : List V} {ds : List PyData}, DtAll K mu H vs ds → noDcts ds = true → DpAll K H vs ds
  | _, _, .nil, _ => .nil
  | _, _, .cons h t, e => by
    simp only [noDcts, Bool.and_eq_true] at e
    exact .cons (Dt.dp h e.1) (DtAll.dp t e.2)
end
def isStrD : PyData → Bool
  | .str _ => true
  | _ => false
def isTupD : PyData → Option (List PyData)
  | .tuple ds => some ds
  | _ => none
/-- may both be compared by this layer: one is a text, or neither holds a dict -/
def gEq (d e : PyData) : Option PyData :=
  if isStrD e = true ∧ plainD d = true then some (.bool (PyData.eqv d e))
  else if (noDct d = true ∧ noDct e = true) ∧ SeqAt.shaped d = true ∧ SeqAt.shaped e = true then some (.bool (PyData.eqv d e))
  else match d, e with
    | .tuple ds, .tuple [] => some (.bool ds.isEmpty)
    | _, _ => none
def rEqT0 (K : PySem.W.Frag) : R2 := fun x y H Q => ∃ a b xs, x = .ref a ∧ y = .ref b ∧ SqT K H a xs ∧ SqT K H b [] ∧ Q (.bl xs.isEmpty) H
theorem op_eqT0 (hu : X.A.units + 1 < cLine) : OpR X (compareOp .Eq) (rEqT0 X.K) := fun pins s σ H x y v u Q I rx ry ⟨a, b, xs, ex, ey, h1, h2, q⟩ => by
  subst ex ey
  cases rx
  cases ry
  obtain ⟨its, r, p, _⟩ := I.tuple h1
  obtain ⟨its2, r2, p2, _⟩ := I.tuple h2
  cases r2
  refine PySem.W.eq_tuplesT (n := 0) (e := fun _ => true) p p2 (fun j h1 h2 => absurd h2 (by simp)) hu ⟨.bl xs.isEmpty, H, I, ?_, q⟩
  have hl := r.length
  cases xs with
  | nil =>
    cases r
    rfl
  | cons x xs =>
    cases r
    simp
    rfl
def rEqA (K : PySem.W.Frag) : R2 := fun x y H Q => (rEqS K x y H Q ∨ rEqD K x y H Q) ∨ rEqT0 K x y H Q
theorem op_eqA (hu : X.A.units + 64 < cLine) : OpR X (compareOp .Eq) (rEqA X.K) := OpR.or (OpR.or (op_eqS (by omega)) (op_eqD hu)) (op_eqT0 (by omega))
theorem ok_eq : OpOk K (rEqA K) gEq := fun mu H x y d1 d2 d Q hm t1 t2 e k => by
  unfold gEq at e
  split at e
  · rename_i hc
    cases e
    cases d2 with
    | str z =>
      refine .inl (.inl ⟨z, t2.text, okv_of t1 hc.2, ?_⟩)
      rw [isTx_eqv t1]
      exact k _ H (fun _ _ z => z) (.bl _)
    | _ => exact absurd hc.1 (by simp [isStrD])
  · split at e
    · rename_i hc
      cases e
      exact .inl (.inr ⟨d1, d2, t1.dp hc.1.1, t2.dp hc.1.2, hc.2.1, hc.2.2, k _ H (fun _ _ z => z) (.bl _)⟩)
    · split at e
      · rename_i ds0 _ _
        cases e
        obtain ⟨a, xs, rfl, h1, u1⟩ := t1.tuple
        obtain ⟨b, ys, rfl, h2, u2⟩ := t2.tuple
        cases u2
        have el : xs.isEmpty = ds0.isEmpty := by cases u1 <;> rfl
        refine .inr ⟨a, b, xs, rfl, rfl, h1, h2, ?_⟩
        rw [el]
        exact k _ H (fun _ _ z => z) (.bl _)
      · cases e
def gNe (d e : PyData) : Option PyData := if isStrD d = true ∧ isStrD e = true then some (.bool (!PyData.eqv d e))
  else if (noDct d = true ∧ noDct e = true) ∧ SeqAt.shaped d = true ∧ SeqAt.shaped e = true then some (.bool (!PyData.eqv d e)) else none
def rNeA (K : PySem.W.Frag) : R2 := fun x y H Q => rNe x y H Q ∨ rNeD K x y H Q
theorem op_neA (hu : X.A.units + 64 < cLine) : OpR X (compareOp .NotEq) (rNeA X.K) := OpR.or op_ne (op_neD hu)
theorem ok_ne : OpOk K (rNeA K) gNe := fun mu H x y d1 d2 d Q hm t1 t2 e k => by
  unfold gNe at e
  split at e
  · rename_i hc
    cases e
    cases d1 with
    | str a =>
      cases d2 with
      | str b =>
        have e1 := t1.text
        have e2 := t2.text
        subst e1 e2
        have q : (!decide (V.str a = V.str b)) = !PyData.eqv (.str a) (.str b) := by
          have e3 : PyData.eqv (.str a) (.str b) = (a == b) := rfl
          rw [e3]
          by_cases q : a = b
          · subst q; simp
          · have q2 : (a == b) = false := beq_eq_false_iff_ne.mpr q
            rw [q2]
            simp [q]
        exact .inl ⟨rfl, by rw [q]; exact k _ H (fun _ _ z => z) (.bl _)⟩
      | _ => cases hc.2
    | _ => cases hc.1
  · split at e
    · rename_i hc
      cases e
      exact .inr ⟨d1, d2, t1.dp hc.1.1, t2.dp hc.1.2, hc.2.1, hc.2.2, k _ H (fun _ _ z => z) (.bl _)⟩
    · cases e
/-- is, is not of truths, of None -/
def gIs (neg : Bool) : PyData → PyData → Option PyData
  | .bool a, .bool b => some (.bool (if neg then !decide (a = b) else decide (a = b)))
  | _, _ => none
theorem ok_isnot_bl : OpOk K (fun x y H Q => ∃ a b, x = .bl a ∧ y = .bl b ∧ Q (.bl (!decide (a = b))) H) (gIs true) := fun mu H x y d1 d2 d Q hm t1 t2 e k => by
  unfold gIs at e
  split at e
  · cases e
    exact ⟨_, _, t1.bool, t2.bool, k _ H (fun _ _ z => z) (.bl _)⟩
  · cases e
theorem ok_is_bl : OpOk K (fun x y H Q => ∃ a b, x = .bl a ∧ y = .bl b ∧ Q (.bl (decide (a = b))) H) (gIs false) := fun mu H x y d1 d2 d Q hm t1 t2 e k => by
  unfold gIs at e
  split at e
  · cases e
    exact ⟨_, _, t1.bool, t2.bool, k _ H (fun _ _ z => z) (.bl _)⟩
  · cases e
end
end Dl

namespace Dl
open PySem PySem.Spec PyProof.Rows L2

/-! ### isinstance -/
/-- the class of a tree -/
def tyD : PyData → Option String
  | .none => some "NoneType"
  | .bool _ => some "bool"
  | .int _ => some "int"
  | .str _ => some "str"
  | .list _ => some "list"
  | .tuple _ => some "tuple"
  | .dict kvs => if realD kvs = true then some "dict" else none
def isiB (a T : String) : Bool := a == T || (a == "bool" && T == "int")
/-- what the library's table says of such a class -/
def IsiT (T : String) : Prop := ∀ a ∈ ["NoneType", "bool", "int", "str", "list", "tuple", "dict"], kitB a T = some (isiB a T)
theorem isi_str : IsiT "str" := by unfold IsiT; decide +kernel
theorem isi_tuple : IsiT "tuple" := by unfold IsiT; decide +kernel
theorem isi_int : IsiT "int" := by unfold IsiT; decide +kernel
theorem isi_bool : IsiT "bool" := by unfold IsiT; decide +kernel
theorem isi_list : IsiT "list" := by unfold IsiT; decide +kernel
theorem isi_dict : IsiT "dict" := by unfold IsiT; decide +kernel
def gIsi (T : String) (d : PyData) : Option PyData := (tyD d).map fun a => .bool (isiB a T)
section
variable {X : Cx} {K : PySem.W.Frag} {mu : Addr → Prop} {H : Hp} {Z : Par} {a b e : Expr} {es : List Expr} {pos : Pos} {fa fb fc : DE} {ga : DA}
theorem tyD_mem {d : PyData} {n : String} (h : tyD d = some n) : n ∈ ["NoneType", "bool", "int", "str", "list", "tuple", "dict"] := by
  unfold tyD at h
  split at h <;> first | (cases h; decide) | (split at h <;> first | (cases h; decide) | cases h)
theorem tyX_of {v : V} {d : PyData} {n : String} (t : Dt K mu H v d) (h : tyD d = some n) : TyX K H v (.type n) := by
  cases t with
  | non => cases h; exact .base .non
  | bl b => cases h; exact .base (.bl b)
  | int i => cases h; exact .base (.int i)
  | str x => cases h; exact .base (.str x)
  | lst r _ _ =>
    cases h
    rcases r with r | ⟨o, r⟩
    · exact .base (.lst r)
    · exact .base (.frz r)
  | tup r _ _ =>
    cases h
    exact .base (.tup r)
  | tupK r _ _ =>
    cases h
    rcases r (fun _ => none) with (r | ⟨o, r⟩) | ⟨o, its, m, h1, h2, _⟩
    · cases r
    · cases r
    · exact .kTuple h1 h2
  | scr _ _ =>
    simp [tyD, realD] at h
  | dcT _ _ _ =>
    simp [tyD, realD] at h
  | exc _ _ =>
    simp [tyD, realD] at h
  | dct r _ _ =>
    simp only [tyD] at h
    split at h
    · cases h; exact .base (.dK r)
    · cases h
/-- isinstance(e, T) -/
theorem disi {T : String} {x c : Str} {p p2 : Pos} (hT : IsiT T) (hg : Gl X x) (hm : X.mg x = none) (hv : bootBuiltins x = some (.builtin "isinstance")) (hg2 : Gl X c) (hm2 : X.mg c = none) (hv2 : bootBuiltins c = some (.type T)) (ha : PE X e (lft X.K Z fa))
    (hn : x ≠ "__name__" := by decide) (hdb : (x == ("__debug__" : Str)) = false := by decide) (hn2 : c ≠ "__name__" := by decide) (hdb2 : (c == ("__debug__" : Str)) = false := by decide)
    (he : starEach [e, .Name c p2] X.env = (false, eval e X.env) :: starEach [.Name c p2] X.env := by rfl) (he2 : starEach [.Name c p2] X.env = (false, eval (.Name c p2) X.env) :: starEach [] X.env := by rfl) (hpl : (backTo pos (starEach [.Name c p2] X.env)).any (·.1) = false := by rfl) :
    PE X (.Call (.Name x p) [e, .Name c p2] [] pos) (lft X.K Z (dUn (gIsi T) fa)) := PEimp (pe_callB call_isi hg hm hv (pa_cons ha (pa_cons (pe_bltn (v := .ty T) hg2 hm2 hv2 rfl hn2 hdb2) pa_nil he2) he) hn hdb he hpl) fun σ H Q h => by
  obtain ⟨M, s, d, s', rl, hf, k⟩ := h
  obtain ⟨d1, h1, h3⟩ := dUn_some hf
  unfold gIsi at h3
  simp only [Option.map_eq_some_iff] at h3
  obtain ⟨n, h4, h5⟩ := h3
  subst h5
  refine ⟨M, s, d1, s', rl, h1, fun v H1 k1 r1 t1 => ?_⟩
  exact ⟨v, .ty T, .type n, .type T, _, rfl, .ty T, tyX_of t1 h4, kit_ty (hT n (tyD_mem h4)), k _ H1 k1 r1 (.bl _)⟩

/-! ### slices -/
abbrev DO := Sl → Option (Option Int × Sl)
def oN : DO := fun s => some (none, s)
def oS (f : DE) : DO := fun s => (f s).bind fun p => match p.1 with
  | .int i => some (some i, p.2)
  | _ => none
def lfO (K : PySem.W.Frag) (Z : Par) (f : DO) : TO := fun σ H Q => ∃ M s d s', Rel K Z M σ H s ∧ f s = some (d, s') ∧ ∀ H', Kq Z M H M H' → Rel K Z M σ H' s' → Q d H'
theorem POimp {X : Cx} {e : Option Expr} {t t' : TO} (h : PO X e t) (i : ∀ σ H Q, t' σ H Q → t σ H Q) : PO X e t' := ⟨fun pins s σ H Q I q => h.run pins s σ H Q I (i σ H Q q)⟩
theorem don : PO X none (lfO X.K Z oN) := POimp po_none fun σ H Q h => by
  obtain ⟨M, s, d, s', rl, hf, k⟩ := h
  cases hf
  exact k H (Kq.refl _ _ _) rl
theorem dos (h : PE X e (lft X.K Z fa)) : PO X (some e) (lfO X.K Z (oS fa)) := POimp (po_some h) fun σ H Q h => by
  obtain ⟨M, s, d, s', rl, hf, k⟩ := h
  unfold oS at hf
  simp only [Option.bind_eq_some_iff] at hf
  obtain ⟨⟨d1, s1⟩, h1, h2⟩ := hf
  dsimp only at h2
  split at h2
  · cases h2
    exact ⟨M, s, _, _, rl, h1, fun v H1 k1 r1 t1 => ⟨_, t1.inti, k H1 k1 r1⟩⟩
  · cases h2
def cutD (xs : List PyData) (lo hi : Option Int) : List PyData := (xs.drop (HT.sIx xs.length 0 lo)).take (HT.sIx xs.length xs.length hi - HT.sIx xs.length 0 lo)
theorem cut_dt {xs : List V} {ds : List PyData} (t : DtAll K mu H xs ds) (lo hi : Option Int) : DtAll K mu H (cutV xs lo hi) (cutD ds lo hi) := by
  unfold cutV cutD
  rw [t.len]
  exact (t.drop _).take _
def gSl (d : PyData) (lo hi : Option Int) : Option PyData := match d with
  | .list ds => some (.list (cutD ds lo hi))
  | .tuple ds => some (.tuple (cutD ds lo hi))
  | .str x => if x.length ≤ sizeLine then some (.str (cutS x lo hi)) else none
  | _ => none
def dSl (f : DE) (lo hi : DO) : DE := fun s => (f s).bind fun p => (lo p.2).bind fun q => (hi q.2).bind fun r => (gSl p.1 q.1 r.1).map fun d => (d, r.2)
def rSlZ (K : PySem.W.Frag) : V → Option Int → Option Int → Hp → VK → Prop := fun x lo hi H Q => (rSlA K x lo hi H Q ∨ rSlL K x lo hi H Q) ∨ rSlS x lo hi H Q
theorem sl_Z : SlR X (rSlZ X.K) := SlR.or (SlR.or sl_tupA sl_list) sl_str
theorem whole_cut (ds : List PyData) {lo hi : Option Int} (h : HT.sIx ds.length 0 lo = 0 ∧ HT.sIx ds.length ds.length hi = ds.length) : cutD ds lo hi = ds := by
  unfold cutD
  rw [h.1, h.2]
  simp
theorem dsl {lo hi : Option Expr} {flo fhi : DO} {p2 : Pos} (he : PE X e (lft X.K Z fa)) (hl : PO X lo (lfO X.K Z flo)) (hu : PO X hi (lfO X.K Z fhi)) : PE X (.Subscript e (.Slice lo hi none p2) pos) (lft X.K Z (dSl fa flo fhi)) := PEimp (pe_slice sl_Z he hl hu) fun σ H Q h => by
  obtain ⟨M, s, d, s', rl, hf, k⟩ := h
  unfold dSl at hf
  simp only [Option.bind_eq_some_iff, Option.map_eq_some_iff] at hf
  obtain ⟨⟨d1, s1⟩, h1, ⟨o1, s2⟩, h2, ⟨o2, s3⟩, h3, d2, h4, h5⟩ := hf
  cases h5
  refine ⟨M, s, d1, s1, rl, h1, fun v H1 k1 r1 t1 => ⟨M, s1, o1, s2, r1, h2, fun H2 k2 r2 => ⟨M, s2, o2, _, r2, h3, fun H3 k3 r3 => ?_⟩⟩⟩
  have t3 := t1.mono (k2.trans k3).kp
  have kk := k1.trans (k2.trans k3)
  unfold gSl at h4
  dsimp only at h4
  split at h4
  · cases h4
    obtain ⟨a, xs, rfl, g1, u1⟩ := t3.list
    exact .inl (.inr ⟨a, xs, rfl, g1, fun p hp => k _ _ (kk.trans (kq_grow (grow_new hp))) (r3.grow (grow_new hp)) (dt_newL r3.muT hp (cut_dt u1 _ _))⟩)
  · cases h4
    obtain ⟨a, xs, ea, g1, u1⟩ := t3.tuple
    subst ea
    refine .inl (.inl ⟨a, xs, rfl, g1, fun hw => ?_, fun _ p hp => k _ _ (kk.trans (kq_grow (grow_new hp))) (r3.grow (grow_new hp)) (dt_newT r3.muT hp (cut_dt u1 _ _))⟩)
    rw [u1.len] at hw
    rw [whole_cut _ hw] at k
    exact k _ _ kk r3 t3
  · split at h4
    case isFalse => cases h4
    cases h4
    exact .inr ⟨_, t3.text, by assumption, k _ _ kk r3 (.str _)⟩
  · cases h4
end

/-! ### a tuple turned about -/
section
variable {prog : Program} {w : World} {A : Around} {E : Value → Shared → Prop} {s : Shared}
theorem applied_rev {sl : Addr} {vl vu vs : Value} {n : Nat} {Q : Int × Int × Nat → Shared → Prop} (hs : s.heap.IsSliceOf sl vl vu vs) (pl : IsPart vl none) (pu : IsPart vu none) (ps : IsPart vs (some (-1)))
    (h : Q ((n : Int) - 1, -1, n) s) : wpAny (model prog w) A (Builtin.Slice.sliceApplied (.ref sl) (pure (n : Int))) Q E s := by
  obtain ⟨os, hos, hcs, hds⟩ := id hs
  unfold Builtin.Slice.sliceApplied Builtin.Slice.sliceFields
  refine wpAny_bind (wpAny_bind (wpAny_field hos hds (x := vl) rfl (wpAny_bind (wpAny_field hos hds (x := vu) rfl (wpAny_bind (wpAny_field hos hds (x := vs) rfl (wpAny_pure ?_)))))))
  refine wpAny_bind (HT.slicePart_ ps ?_)
  show wpAny _ _ (if ((-1 : Int) == 0) = true then _ else _) _ _ s
  rw [if_neg (by decide)]
  refine wpAny_bind (HT.slicePart_ pl (wpAny_bind (HT.slicePart_ pu (wpAny_bind (wpAny_pure ?_)))))
  have e1 : Builtin.Slice.sliceAdjust none none (-1) (n : Int) = ((n : Int) - 1, -1) := rfl
  have e2 : Builtin.Slice.slicePlaces ((n : Int) - 1) (-1) (-1) = n := by
    unfold Builtin.Slice.slicePlaces
    rw [if_neg (by decide)]
    split
    · simp only [Int.neg_neg, Int.ediv_one]; omega
    · simp only [Int.toNat_zero]; omega
  show wpAny _ _ (match Builtin.Slice.sliceAdjust none none (-1) (n : Int) with | (lo, hi) => pure (lo, (-1 : Int), Builtin.Slice.slicePlaces lo hi (-1))) _ _ s
  rw [e1]
  show wpAny _ _ (pure ((n : Int) - 1, (-1 : Int), Builtin.Slice.slicePlaces ((n : Int) - 1) (-1) (-1))) _ _ s
  rw [e2]
  exact wpAny_pure h
theorem filterMap_some {α β : Type} {f : α → Option β} {g : α → β} : ∀ l : List α, (∀ m ∈ l, f m = some (g m)) → l.filterMap f = l.map g
  | [], _ => rfl
  | a :: l, h => by
    rw [List.filterMap_cons, h a List.mem_cons_self, List.map_cons, filterMap_some l fun m hm => h m (List.mem_cons_of_mem _ hm)]
theorem pick_rev (xs : Array Value) : ((List.range xs.size).filterMap fun (m : Nat) => xs[(((xs.size : Int) - 1) + (m : Int) * (-1)).toNat]?).toArray = xs.toList.reverse.toArray := by
  congr 1
  rw [filterMap_some (g := fun m => (xs.toList.reverse[m]?).getD .none) _ fun m hm => ?_]
  · apply List.ext_getElem?
    intro i
    by_cases hi : i < xs.size
    · have hl : i < xs.toList.reverse.length := by simpa using hi
      rw [List.getElem?_map, List.getElem?_range hi, List.getElem?_eq_getElem hl]
      simp only [Option.map_some, List.getElem?_eq_getElem hl, Option.getD_some]
    · rw [List.getElem?_eq_none (by simpa using hi), List.getElem?_eq_none (by simpa using hi)]
  · have hm := List.mem_range.mp hm
    have e : (((xs.size : Int) - 1) + (m : Int) * (-1)).toNat = xs.size - 1 - m := by omega
    have hl : m < xs.toList.reverse.length := by simpa using hm
    rw [e, ← Array.getElem?_toList, List.getElem?_eq_getElem hl, List.getElem_reverse, List.getElem?_eq_getElem (by simp; omega)]
    simp
theorem getItem_tuple_rev {t sl : Addr} {items : Array Value} {vl vu vs : Value} {Q : Value → Shared → Prop} (ht : IsTup s.heap t items) (hs : s.heap.IsSliceOf sl vl vu vs) (pl : IsPart vl none) (pu : IsPart vu none) (ps : IsPart vs (some (-1)))
    (h : Q (.ref s.heap.objs.size) { s with heap := s.heap.push { cls := .type "tuple", data := .seq items.toList.reverse.toArray } }) (hsz : items.size ≤ sizeLine) : wpAny (model prog w) A (getItem (.ref t) (.ref sl)) Q E s := by
  have hok : sizeOk (.seq items.toList.reverse.toArray) := by
    show items.toList.reverse.toArray.size ≤ sizeLine
    rw [List.size_toArray, List.length_reverse, Array.length_toList]
    exact hsz
  obtain ⟨os, hos, hcs, hds⟩ := id hs
  have hTy : s.TypeIs (.ref sl) "slice" := ⟨os, hos, hcs⟩
  unfold getItem
  try with_reducible refine wpAny_holding ?_
  first | refine wpAny_bind (wpAny_pure ?_) | skip
  refine wpAny_bind (wpAny_sequenceKey ht.typeIs (by decide) ?_)
  refine wpAny_bind (wpAny_callSpecial?_slot (name := Str.ofString "__getitem__") ht.typeIs PyProof.Rows.slot_tuple_getitem (wpAny_call_entry PyProof.Rows.slot_tuple_getitem ht.typeIs entry_tuple_getitem ?_ (args_tuple_getitem _ _)))
  show wpAny _ _ (Builtin.Tuple.tupleItemsOf (.ref t) >>= _) _ _ s
  refine wpAny_bind (tupleItemsOf_ ht ?_)
  refine wpAny_bind (wpAny_typeOf hTy ?_)
  rw [if_pos (by decide)]
  refine wpAny_bind (applied_rev hs pl pu ps ?_)
  have hno : ¬ ((((items.size : Int) - 1) == 0 && (-1 : Int) == 1 && items.size == items.size) = true) := by simp
  show wpAny _ _ (if (((items.size : Int) - 1) == 0 && (-1 : Int) == 1 && items.size == items.size) = true then _ else _) _ _ s
  rw [if_neg hno, pick_rev]
  first
    | exact wpAny_bind (m := Builtin.Tuple.tupleExact _) (wpAny_newObj_type (wpAny_pure ⟨_, rfl, wpAny_pure h⟩) hok)
    | exact wpAny_bind (m := Builtin.Tuple.tupleExact _) (wpAny_newObj_type (wpAny_bind (wpAny_pure (wpAny_pure ⟨_, rfl, wpAny_pure h⟩))) hok)
    | exact wpAny_bind (wpAny_bind (m := Builtin.Tuple.tupleExact _) (wpAny_newObj_type (wpAny_pure (wpAny_pure ⟨_, rfl, wpAny_pure h⟩)) hok))
    | exact wpAny_bind (wpAny_bind (m := Builtin.Tuple.tupleExact _) (wpAny_newObj_type (wpAny_pure ⟨_, rfl, wpAny_pure h⟩) hok))
end
def gRev : PyData → Option PyData
  | .tuple ds => some (.tuple ds.reverse)
  | _ => none
section
variable {X : Cx} {K : PySem.W.Frag} {mu : Addr → Prop} {H : Hp} {Z : Par} {a b e : Expr} {es : List Expr} {pos : Pos} {fa fb fc : DE} {ga : DA}
def tRevT (K : PySem.W.Frag) (te : TE) : TE := fun σ H Q => te σ H fun x H1 => ∃ a xs, x = .ref a ∧ SqT K H1 a xs ∧ ∀ p, H1 p = none → Q (.ref p) (upd H1 p (.tup xs.reverse))
theorem pe_revT {te : TE} {k : Nat} {p1 p2 p3 : Pos} (he : PE X e te) : PE X (.Subscript e (.Slice none none (some (.UnaryOp .USub (.Constant (.int 1) k p1) p2)) p3) pos) (tRevT X.K te) := by
  refine ⟨fun pins s σ H Q I h => ?_⟩
  refine Subscript_ (thn (he.run pins s σ H _ I h) fun v s1 ⟨x, H1, I1, r1, a, xs, ex, hx, q⟩ => ?_)
  subst ex
  cases r1
  have part3 : PO X (some (.UnaryOp .USub (.Constant (.int 1) k p1) p2)) (tPart (tUn (rU fun i => .int (-i)) (tC (.int 1)))) := po_some (pe_un un_neg pe_int)
  refine wpAny_Slice (thn (po_none.run pins s1 σ H1 (fun o H2 => o = none ∧ H2 = H1) I1 ⟨rfl, rfl⟩) fun vl s2 ⟨l, H2, I2, pl, el, e2⟩ => ?_)
  subst el e2
  refine thn (po_none.run pins s2 σ H2 (fun o H3 => o = none ∧ H3 = H2) I2 ⟨rfl, rfl⟩) fun vu s3 ⟨u, H3, I3, pu, eu, e3⟩ => ?_
  subst eu e3
  refine thn (part3.run pins s3 σ H3 (fun o H4 => o = some (-1) ∧ H4 = H3) I3 ⟨1, rfl, -1, rfl, rfl, rfl⟩) fun vs s4 ⟨o, H4, I4, ps, eo, e4⟩ => ?_
  subst eo e4
  have I5 : Inv X pins σ H4 { s4 with heap := s4.heap.push { cls := .type "slice", data := .fields #[vl, vu, vs] } } := I4.kept (t' := s4.toks) fun b ob q => Heap.get?_push_of_some _ q
  obtain ⟨its, r, ht, hz⟩ := I5.tuple hx
  have hlen := r.length
  show wpAny (model X.prog X.w) X.A (subscriptTail e (.Slice none none (some (.UnaryOp .USub (.Constant (.int 1) k p1) p2)) p3) (.ref a) (.ref s4.heap.objs.size)) (EP X pins σ Q) X.xe { s4 with heap := s4.heap.push { cls := .type "slice", data := .fields #[vl, vu, vs] } }
  refine tail_any (ops := [.ref a, .ref s4.heap.objs.size]) ht.typeIs (PyProof.Rows.slot_tuple_getitem.lookup) ?_ (by with_unfolding_all rfl)
  refine getItem_tuple_rev ht (Heap.IsSliceOf.new _ vl vu vs) pl pu ps ?_ (by rw [List.size_toArray]; omega)
  refine ⟨.ref _, _, I5.laid (t' := s4.toks) (o := .tup xs.reverse) (fun b ob q => Heap.get?_push_of_some _ q) (Nat.le_refl _) ?_, rfl, q _ (I5.hok.fresh (Nat.le_refl _))⟩
  exact ⟨by rw [List.length_reverse]; exact hz, _, r.reverse, IsTup.new _ _⟩
theorem drev {k : Nat} {p1 p2 p3 : Pos} (he : PE X e (lft X.K Z fa)) : PE X (.Subscript e (.Slice none none (some (.UnaryOp .USub (.Constant (.int 1) k p1) p2)) p3) pos) (lft X.K Z (dUn gRev fa)) := PEimp (pe_revT he) fun σ H Q h => by
  obtain ⟨M, s, d, s', rl, hf, k⟩ := h
  obtain ⟨d1, h1, h3⟩ := dUn_some hf
  unfold gRev at h3
  split at h3
  · cases h3
    refine ⟨M, s, _, s', rl, h1, fun v H1 k1 r1 t1 => ?_⟩
    obtain ⟨a, xs, rfl, g1, u1⟩ := t1.tuple
    exact ⟨a, xs, rfl, g1, fun p hp => k _ _ (k1.trans (kq_grow (grow_new hp))) (r1.grow (grow_new hp)) (dt_newT r1.muT hp u1.rev)⟩
  · cases h3
end
end Dl

namespace Dl
open PySem PySem.Spec PyProof.Rows L2

/-! ### walked: a list, a tuple, a text's signs -/
def itA (f : DE) : DF := fun s => (f s).bind fun p => match p.1 with
  | .list ds => some (ds, p.2)
  | .tuple ds => some (ds, p.2)
  | .str x => some (signs x, p.2)
  | _ => none
def gNeg : PyData → Option PyData
  | .int i => some (.int (-i))
  | _ => none
/-- a constant of the module -/
def GC (K : PySem.W.Frag) (mg : Str → Option Value) (x : Str) (d : PyData) : Prop := ∃ u v, mg x = some u ∧ RelV v u ∧ ∀ mu H, Dt K mu H v d
/-- x op= e -/
def sAug (g : PyData → PyData → Option PyData) (i : Nat) (f : DE) : DS := fun s => (dVar i s).bind fun q => (f s).bind fun p => (g q.1 p.1).map fun d => .nx (p.2.set i (.dat d))
def gAddS : PyData → PyData → Option PyData
  | .int a, .int b => some (.int (a + b))
  | .str a, .str b => if a.length + b.length ≤ sizeLine then some (.str (a ++ b)) else none
  | _, _ => none
section
variable {X : Cx} {Z : Par} {tg a b e : Expr} {es : List Expr} {pos : Pos} {fa fb fc : DE} {ff : DF} {ga : DA} {st : Stmt} {sts : List Stmt} {f g : DS} {t : DT}
theorem pia (h : PE X e (lft X.K Z fa)) : PI X tg e (lfI X.K Z (itA fa)) := ⟨fun pins s0 σ H R I hq => by
  obtain ⟨M, s, ds, s', rl, hf, k⟩ := hq
  unfold itA at hf
  simp only [Option.bind_eq_some_iff] at hf
  obtain ⟨⟨d1, s1⟩, h1, h2⟩ := hf
  dsimp only at h2
  split at h2
  · cases h2
    exact (pil h).run pins s0 σ H R I ⟨M, s, _, _, rl, (by unfold itL; rw [h1]; rfl), k⟩
  · cases h2
    exact (pit h).run pins s0 σ H R I ⟨M, s, _, _, rl, (by unfold itT; rw [h1]; rfl), k⟩
  · cases h2
    exact (pis h).run pins s0 σ H R I ⟨M, s, _, _, rl, (by unfold itS; rw [h1]; rfl), k⟩
  · cases h2⟩
theorem ok_neg {K : PySem.W.Frag} : UnOk K (rU fun i => .int (-i)) gNeg := fun mu H x d1 d Q hm t1 e k => by
  unfold gNeg at e
  split at e
  · cases e
    exact ⟨_, t1.inti, k _ H (fun _ _ z => z) (.int _)⟩
  · cases e
theorem dgc {x : Str} {d : PyData} (hg : Gl X x) (c : GC X.K X.mg x d) (hd : (x == ("__debug__" : Str)) = false := by decide) : PE X (.Name x pos) (lft X.K Z (dC d)) := by
  obtain ⟨u, v, h1, h2, h3⟩ := c
  exact dg hg h1 h2 h3 hd
theorem ssetLc {i : Nat} {y x : Str} {py px : Pos} {elt iter : Expr} {ifs : List Expr} {scope : Scope} {j : Nat} {spos : Pos} (hc : X.calm = true) (hN : X.N.Nodup) (hy : X.N[i]? = some y) (hyl : X.env.scope.names.lookup y = some .local)
    (hsw : swapsWith (.ListComp elt [⟨.Name x px, iter, ifs, 0⟩] scope pos) (some (.Name y py)) spos.line X.env = pure true) (hi : PI X (.Name x px) iter (lfI X.K Z ff)) (ok : BlkOk X.N X.env.scope scope [(x, j)])
    (hg : ∀ (s : Shared) (H : Hp) (C : Addr) (cl : List (Str × Addr)) (fp : List Addr), PG (X.blk s H scope (compEnvC scope cl C X.env) fp) (.Name x px) (gName j))
    (ht : ∀ (s : Shared) (H : Hp) (C : Addr) (cl : List (Str × Addr)) (fp : List Addr) (Z : Par), PTs (X.blk s H scope (compEnvC scope cl C X.env) fp) ifs (lfT X.K Z t))
    (he : ∀ (s : Shared) (H : Hp) (C : Addr) (cl : List (Str × Addr)) (fp : List Addr) (Z : Par), PE (X.blk s H scope (compEnvC scope cl C X.env) fp) elt (lft X.K Z fa)) (hs : ∀ x, foldedSetIterable iter X.env x = pure x := by intro _; rfl) :
    PS X (.Assign [.Name y py] (.ListComp elt [⟨.Name x px, iter, ifs, 0⟩] scope pos) spos) (lfS X.K Z (sSet i (dL (fLc ff j t fa)))) :=
  PSimp (ps_setLc hc hN hy hyl hsw hi ok hg (tt := fun σ H Q => ∃ Z, lfT X.K Z t σ H Q) (te := fun σ H Q => ∃ Z, lft X.K Z fa σ H Q)
    (fun s H0 C cl fp => ⟨fun pins s' σ H Q I ⟨Z, q⟩ => (ht s H0 C cl fp Z).run pins s' σ H Q I q⟩) (fun s H0 C cl fp => ⟨fun pins s' σ H Q I ⟨Z, q⟩ => (he s H0 C cl fp Z).run pins s' σ H Q I q⟩) hs) fun D σ H h => by
  obtain ⟨M, s, fl, rl, h1, k⟩ := h
  unfold sSet dL at h1
  simp only [Option.map_eq_some_iff] at h1
  obtain ⟨⟨d, s1⟩, ⟨⟨ds, s2⟩, h1, h3⟩, h2⟩ := h1
  cases h3
  cases h2
  refine lift_lc (Z := Z) (t := t) (fa := fa) (ff := ff) (K := X.K) (j := j) (σ := σ) (H := H) (Q := fun x H1 => gName i x σ H1 D.nx) (fun Z _ _ _ q => ⟨Z, q⟩) (fun Z _ _ _ q => ⟨Z, q⟩) ⟨M, s, ds, _, rl, h1, fun p xs H' hp hx k1 r1 t1 => ?_⟩
  have td : Dt X.K (Mu Z M) H' (.ref p) (.list ds) := .lst (.inl hx) (fun q => by
    obtain ⟨o, e⟩ := rl.muT p q
    rw [hp] at e; cases e) (t1.mono kp_drop)
  obtain ⟨M', _, r2, k2⟩ := r1.unadd.setDat td i
  exact k M' _ H' (k1.trans k2) r2
theorem saug {i : Nat} {x : Str} {pos' : Pos} {op : Operator} {ti : TIp} {g : PyData → PyData → Option PyData} (hN : X.N.Nodup) (hi : X.N[i]? = some x) (hx : Loc X.env.scope x) (he : PE X e (lft X.K Z fa)) (ho : PIp X op ti) (ok : OpOk X.K ti g)
    (hf : X.fn x = true ∨ X.env.scope.names.lookup x = some .local := by first | exact .inl rfl | exact .inr rfl | assumption) : PS X (.AugAssign (.Name x pos') op e pos) (lfS X.K Z (sAug g i fa)) := PSimp (ps_aug hN hi hx he ho hf) fun D σ H h => by
  obtain ⟨M, s, fl, rl, h1, k⟩ := h
  unfold sAug at h1
  simp only [Option.bind_eq_some_iff, Option.map_eq_some_iff] at h1
  obtain ⟨⟨d0, s0⟩, h0, ⟨d1, s1⟩, h1, d2, h2, h3⟩ := h1
  cases h3
  obtain ⟨e0, _⟩ := dVar_some h0
  obtain ⟨v, g1, g2⟩ := rl.sl.get e0
  refine ⟨v, g1, M, s, d1, s1, rl, h1, fun w H1 k1 r1 t1 => ?_⟩
  refine ok (Mu Z M) H1 v w _ d1 d2 _ r1.muT (g2.mono k1.kp) t1 h2 fun z H2 gr t2 => ?_
  obtain ⟨M', _, r2, k2⟩ := (r1.grow gr).setDat t2 i
  exact k M' _ H2 (k1.trans ((kq_grow gr).trans k2)) r2
end

/-! ### a def that makes a list which nobody else has -/
def lfR (K : PySem.W.Frag) (Z : Par) (g : DF) : TS := fun D σ H => ∃ M s ds s', Rel K Z M σ H s ∧ g s = some (ds, s') ∧ ∀ M' σ' p xs H', Z.H0 p = none → H' p = some (.lst xs) → Rel K (Z.add p) M' σ' H' s' → DtAll K (Mu (Z.add p) M') H' xs ds → D.rt (.ref p) H'
def rSeq (f : DS) (g : DF) : DF := fun s => (f s).bind fun fl => match fl with
  | .nx s' => g s'
  | _ => none
section
variable {X : Cx} {Z : Par} {tg a b e : Expr} {es : List Expr} {pos : Pos} {fa fb fc : DE} {ff : DF} {ga : DA} {st : Stmt} {sts : List Stmt} {f : DS} {t : DT}
theorem rret (he : PE X e (lfF X.K Z ff)) : PS X (.Return (some e) pos) (lfR X.K Z ff) := PSimp (ps_ret he) fun D σ H h => by
  obtain ⟨M, s, ds, s', rl, hf, k⟩ := h
  refine ⟨M, s, ds, s', rl, hf, fun p xs H' hp hx k1 r1 t1 => k M σ p xs H' ?_ hx r1 t1⟩
  cases q : Z.H0 p with
  | none => rfl
  | some o =>
    have npp : Z.p ≠ some p := fun z => by
      obtain ⟨u, e⟩ := rl.pt p z
      rw [hp] at e; cases e
    have := rl.base p o q npp
    rw [hp] at this; cases this
theorem rone (h : PS X st (lfR X.K Z ff)) : PSs X [st] (lfR X.K Z ff) := pss_one h
theorem rcons (h1 : PS X st (lfS X.K Z f)) (h2 : PSs X sts (lfR X.K Z ff)) : PSs X (st :: sts) (lfR X.K Z (rSeq f ff)) := PSsimp (pss_cons h1 h2) fun D σ H h => by
  obtain ⟨M, s, ds, s', rl, hf, k⟩ := h
  unfold rSeq at hf
  simp only [Option.bind_eq_some_iff] at hf
  obtain ⟨fl, h1, h2⟩ := hf
  cases fl with
  | nx s1 => exact ⟨M, s, .nx s1, rl, h1, fun M1 σ1 H1 k1 r1 => ⟨M1, s1, ds, s', r1, h2, fun M' σ' p xs H' hp hx r2 t2 => k M' σ' p xs H' hp hx r2 t2⟩⟩
  | _ => cases h2
end
def fnF (N : List Str) (n : Nat) (g : DF) : List PyData → Option (List PyData) := fun ds => if ds.length = n then (g (startS N ds)).map (·.1) else none
theorem okF {P : Program} {w : World} {K : PySem.W.Frag} {mg : Str → Option Value} {base : Heap} {x qual : Str} {st : Stmt} {f : Addr} {fd : FuncData} {N ps : List Str} {k : Nat} {g : DF} (F : Fun K x qual st f fd) (S : FnScope N ps (defScope st))
    (hb : ∀ (cdv : Value) (A : Around) (outer : List Env) (s : Shared) (H : Hp) (E : XK) (Z : Par), Room k (A.deeper (envOfC qual (defScope st) s.heap.objs.size f cdv)) → PSs (cxOf CX0 P w K mg base N qual (defScope st) f cdv A outer s H E).nox (defBody st) (lfR K Z g)) :
    FnOk P w K mg base CX0 (k + 1) f fd ps (spF K (fnF N ps.length g)) := by
  refine F.ok S (fun vs H Q E h => ?_) (fun cdv A outer s H vs Q E hr h => ?_)
  · obtain ⟨mu, ds, es, h1, h2, h3, h4⟩ := h
    unfold fnF at h3
    split at h3
    · rename_i hl
      rw [h2.len]; exact hl
    · cases h3
  · obtain ⟨mu, ds, es, h1, h2, h3, h4⟩ := h
    unfold fnF at h3
    split at h3
    case isFalse => cases h3
    simp only [Option.map_eq_some_iff] at h3
    obtain ⟨⟨es', s'⟩, hq, h5⟩ := h3
    cases h5
    let Z : Par := ⟨H, none, mu⟩
    refine ⟨_, hb cdv A outer s H E Z hr, [], startS N ds, _, s', ?_, hq, fun M' σ' p xs H' hp hx r t => ?_⟩
    · have muE : ∀ a, Mu Z [] a → mu a := fun a q => by
        rcases q with q | q | q
        · exact q
        · cases q
        · cases q
      refine ⟨fun a o e _ => e, fun a ha => (by cases ha), h1, fun a ha => (by cases ha), ?_⟩
      unfold startS L2.start
      rw [h2.len]
      exact slAll_start _ (h2.mono fun a o e n => ⟨e, fun z => n (muE a z)⟩)
    · refine h4 p xs H' hp (fun a o e => r.base a o e (fun z => by cases z)) hx (t.mono fun a o e n => ⟨e, fun z => n ?_⟩)
      rcases z with z | z
      · exact .inl (.inl z)
      · exact .inl (.inr z)

/-! ### a def as it is called -/
def Cal (P : Program) (w : World) (K : PySem.W.Frag) (mg : Str → Option Value) (base : Heap) (k : Nat) (x : Str) (ps : List Str) (sp : Sp) : Prop := ∃ (f : Addr) (fd : FuncData), FnOk P w K mg base CX0 k f fd ps sp ∧ mg x = some (.ref f) ∧ PySem.W.keepIn K (.ref f) = true ∧ Binds K fd ps []
/-- where a def of the text stands -/
def Std (K : PySem.W.Frag) (mg : Str → Option Value) (x : Str) (st : Stmt) (ps : List Str) : Prop := ∃ (f : Addr) (fd : FuncData), Fun K x x st f fd ∧ mg x = some (.ref f) ∧ Binds K fd ps []
section
variable {P : Program} {w : World} {K : PySem.W.Frag} {mg : Str → Option Value} {base : Heap}
theorem calP {x : Str} {st : Stmt} {N ps : List Str} {k : Nat} {b : DS} (F : Std K mg x st ps) (S : FnScope N ps (defScope st))
    (hb : ∀ (f : Addr) (cdv : Value) (A : Around) (outer : List Env) (s : Shared) (H : Hp) (E : XK) (Z : Par), Room k (A.deeper (envOfC x (defScope st) s.heap.objs.size f cdv)) → PSs (cxOf CX0 P w K mg base N x (defScope st) f cdv A outer s H E).nox (defBody st) (lfS K Z b)) :
    Cal P w K mg base (k + 1) x ps (spP K (fnP N ps.length b)) := by
  obtain ⟨f, fd, F, hm, hb2⟩ := F
  exact ⟨f, fd, okP F S (fun cdv A outer s H E Z hr => hb f cdv A outer s H E Z hr), hm, F.kp, hb2⟩
theorem calM {x : Str} {st : Stmt} {N ps : List Str} {k : Nat} {b : DS} (F : Std K mg x st ps) (S : FnScope N ps (defScope st))
    (hb : ∀ (f : Addr) (cdv : Value) (A : Around) (outer : List Env) (s : Shared) (H : Hp) (E : XK) (Z : Par), Room k (A.deeper (envOfC x (defScope st) s.heap.objs.size f cdv)) → PSs (cxOf CX0 P w K mg base N x (defScope st) f cdv A outer s H E).nox (defBody st) (lfS K Z b)) :
    Cal P w K mg base (k + 1) x ps (spM K (fnM N ps.length b)) := by
  obtain ⟨f, fd, F, hm, hb2⟩ := F
  exact ⟨f, fd, okM F S (fun cdv A outer s H E Z hr => hb f cdv A outer s H E Z hr), hm, F.kp, hb2⟩
theorem calF {x : Str} {st : Stmt} {N ps : List Str} {k : Nat} {g : DF} (F : Std K mg x st ps) (S : FnScope N ps (defScope st))
    (hb : ∀ (f : Addr) (cdv : Value) (A : Around) (outer : List Env) (s : Shared) (H : Hp) (E : XK) (Z : Par), Room k (A.deeper (envOfC x (defScope st) s.heap.objs.size f cdv)) → PSs (cxOf CX0 P w K mg base N x (defScope st) f cdv A outer s H E).nox (defBody st) (lfR K Z g)) :
    Cal P w K mg base (k + 1) x ps (spF K (fnF N ps.length g)) := by
  obtain ⟨f, fd, F, hm, hb2⟩ := F
  exact ⟨f, fd, okF F S (fun cdv A outer s H E Z hr => hb f cdv A outer s H E Z hr), hm, F.kp, hb2⟩
theorem Std.noneM {x : Str} {st : Stmt} {ps : List Str} (c : Std K mg x st ps) (k : Nat) : Cal P w K mg base k x ps (spM K fun _ _ => none) := by
  obtain ⟨f, fd, F, hm, hb⟩ := c
  refine ⟨f, fd, ⟨fun vs H Q E h => ?_, fun A outer s H args us vs Q E hr e hb hv h => ?_⟩, hm, F.kp, hb⟩
  · obtain ⟨_, _, _, _, _, _, _, _, _, _, _, _, _, _, h, _⟩ := h
    cases h
  · obtain ⟨_, _, _, _, _, _, _, _, _, _, _, _, _, _, h, _⟩ := h
    cases h
theorem Std.noneP {x : Str} {st : Stmt} {ps : List Str} (c : Std K mg x st ps) (k : Nat) : Cal P w K mg base k x ps (spP K fun _ => none) := by
  obtain ⟨f, fd, F, hm, hb⟩ := c
  refine ⟨f, fd, ⟨fun vs H Q E h => ?_, fun A outer s H args us vs Q E hr e hb hv h => ?_⟩, hm, F.kp, hb⟩
  · obtain ⟨_, _, _, _, _, h, _⟩ := h
    cases h
  · obtain ⟨_, _, _, _, _, h, _⟩ := h
    cases h
theorem Cal.impP {x : Str} {ps : List Str} {k : Nat} {m m' : List PyData → Option PyData} (c : Cal P w K mg base k x ps (spP K m)) (h : ∀ ds d, m' ds = some d → m ds = some d) : Cal P w K mg base k x ps (spP K m') := by
  obtain ⟨f, fd, F, r⟩ := c
  refine ⟨f, fd, F.imp fun vs H Q E q => ?_, r⟩
  obtain ⟨mu, ds, d, h1, h2, h3, h4⟩ := q
  exact ⟨mu, ds, d, h1, h2, h ds d h3, h4⟩
theorem Cal.impM {x : Str} {ps : List Str} {k : Nat} {m m' : List PyData → List PyData → Option (PyData × List PyData)} (c : Cal P w K mg base k x ps (spM K m)) (h : ∀ pd ds d, m' pd ds = some d → m pd ds = some d) : Cal P w K mg base k x ps (spM K m') := by
  obtain ⟨f, fd, F, r⟩ := c
  refine ⟨f, fd, F.imp fun vs H Q E q => ?_, r⟩
  obtain ⟨mu, p, xs, pd, rest, ds, d, pd', h1, h2, h3, h4, h5, h6, h7, h8⟩ := q
  exact ⟨mu, p, xs, pd, rest, ds, d, pd', h1, h2, h3, h4, h5, h6, h _ _ _ h7, h8⟩
theorem Cal.mono {x : Str} {ps : List Str} {j k : Nat} {sp : Sp} (c : Cal P w K mg base j x ps sp) (h : j ≤ k) : Cal P w K mg base k x ps sp := by
  obtain ⟨f, fd, F, r⟩ := c
  exact ⟨f, fd, F.mono h, r⟩
end
section
variable {X : Cx} {Z : Par} {a b e : Expr} {es : List Expr} {pos : Pos} {fa fb fc : DE} {ff : DF} {ga : DA} {k j : Nat} {ps : List Str} {x : Str} {p : Pos}
theorem dcl {m : List PyData → Option PyData} (c : Cal X.prog X.w X.K X.mg X.base j x ps (spP X.K m)) (hr : Room k X.A) (hj : j ≤ k) (hg : Gl X x) (ha : PA X (e :: es) (lfA X.K Z ga)) (hx : Passes CX0 X E0 := by exact pass0)
    (hdb : (x == ("__debug__" : Str)) = false := by decide) (he : starEach (e :: es) X.env = (false, eval e X.env) :: starEach es X.env := by rfl) (hpl : (backTo pos (starEach es X.env)).any (·.1) = false := by rfl) :
    PE X (.Call (.Name x p) (e :: es) [] pos) (lft X.K Z (dCall m ga)) := by
  obtain ⟨f, fd, F, hm, hk, hb⟩ := c
  exact dcall F (hr.mono hj) hg hm hk hb ha hx hdb he hpl
theorem dcl0 {m : List PyData → Option PyData} (c : Cal X.prog X.w X.K X.mg X.base j x ps (spP X.K m)) (hr : Room k X.A) (hj : j ≤ k) (hg : Gl X x) (hx : Passes CX0 X E0 := by exact pass0)
    (hdb : (x == ("__debug__" : Str)) = false := by decide) : PE X (.Call (.Name x p) [] [] pos) (lft X.K Z (dCall m aNil)) := by
  obtain ⟨f, fd, F, hm, hk, hb⟩ := c
  exact dcall0 F (hr.mono hj) hg hm hk hb hx hdb
theorem dclM {m : List PyData → List PyData → Option (PyData × List PyData)} (i : Nat) (c : Cal X.prog X.w X.K X.mg X.base j x ps (spM X.K m)) (hr : Room k X.A) (hj : j ≤ k) (hg : Gl X x) (h1 : PE X e (tVar i)) (ha : PA X es (lfA X.K Z ga)) (hx : Passes CX0 X E0 := by exact pass0)
    (hdb : (x == ("__debug__" : Str)) = false := by decide) (he : starEach (e :: es) X.env = (false, eval e X.env) :: starEach es X.env := by rfl) (hpl : (backTo pos (starEach es X.env)).any (·.1) = false := by rfl) :
    PE X (.Call (.Name x p) (e :: es) [] pos) (lft X.K Z (dCallM m i ga)) := by
  obtain ⟨f, fd, F, hm, hk, hb⟩ := c
  exact dcallM i F (hr.mono hj) hg hm hk hb h1 ha hx hdb he hpl
theorem fcl {m : List PyData → Option (List PyData)} (c : Cal X.prog X.w X.K X.mg X.base j x ps (spF X.K m)) (hr : Room k X.A) (hj : j ≤ k) (hg : Gl X x) (ha : PA X (e :: es) (lfA X.K Z ga)) (hx : Passes CX0 X E0 := by exact pass0)
    (hdb : (x == ("__debug__" : Str)) = false := by decide) (he : starEach (e :: es) X.env = (false, eval e X.env) :: starEach es X.env := by rfl) (hpl : (backTo pos (starEach es X.env)).any (·.1) = false := by rfl) :
    PE X (.Call (.Name x p) (e :: es) [] pos) (lfF X.K Z (fCall m ga)) := by
  obtain ⟨f, fd, F, hm, hk, hb⟩ := c
  exact fcall F (hr.mono hj) hg hm hk hb ha hx hdb he hpl
end
end Dl

/-! ### len(set(..)) of texts -/
namespace Dl
open PySem PySem.Spec PyProof.Rows L2
/-- how many unlike ones -/
def unlike : List Str → List Str → Nat
  | _, [] => 0
  | seen, z :: r => if z ∈ seen then unlike seen r else unlike (z :: seen) r + 1
/-- .. among the first i -/
def unl (zs : List Str) : Nat → Nat
  | 0 => 0
  | i + 1 => match zs[i]? with
    | some z => if z ∈ zs.take i then unl zs i else unl zs i + 1
    | none => unl zs i
theorem unl_le (zs : List Str) : ∀ i, unl zs i ≤ i
  | 0 => Nat.le_refl _
  | i + 1 => by
    have h := unl_le zs i
    unfold unl
    split
    · split <;> omega
    · omega
theorem setOf_as {P : Program} {w : World} {h : Heap} {a : Addr} {S S' : Str → Bool} {n n' : Nat} (R : h.SetOf (PySem.strKind P w) a S n) (e : ∀ k, S k = S' k) (en : n = n') : h.SetOf (PySem.strKind P w) a S' n' := by
  have e' : S = S' := funext e
  subst e' en
  exact R
theorem setOf_moved {P : Program} {w : World} {h h' : Heap} {a : Addr} {S : Str → Bool} {n : Nat} (R : h.SetOf (PySem.strKind P w) a S n) (k : ∀ o, h.get? a = some o → h'.get? a = some o) : h'.SetOf (PySem.strKind P w) a S n := by
  obtain ⟨o, es, ep, t, ho, r⟩ := R
  exact ⟨o, es, ep, t, k o ho, r⟩
section
variable {P : Program} {w : World} {A : Around} {E : Value → Shared → Prop} {s : Shared}
theorem set_fill {I : Addr} {fp wr : List Addr} {G : Array GenState → Array GenState → Prop} {n : Nat} {Pv : Nat → Value → Prop} {St : Nat → Shared → Prop} {R : Result → Shared → Prop}
    (W : WalksS P w A.in1 I fp wr G n Pv St) (a : Addr) (out : a ∉ fp) (zs : List Str) (hn : n = zs.length) (few : zs.length + 1 < scanBound) (vals : ∀ i v, Pv i v → ∃ z t, zs[i]? = some z ∧ v = .str z t) (left : Nat) :
    ∀ (i : Nat) (s : Shared), n - i = left → i ≤ n → St i s → s.heap.SetOf (PySem.strKind P w) a (fun k => decide (k ∈ zs.take i)) (unl zs i) →
      (∀ s', Moved (a :: wr) G s s' → s'.heap.SetOf (PySem.strKind P w) a (fun k => decide (k ∈ zs)) (unl zs n) → R (.ok (.ret .none)) s') → codeAny (model P w) A (.builtin "set.update.loop" ⟨[.ref a, .ref I], []⟩) R s := by
  have outw : a ∉ wr := fun h => out (W.sub _ h)
  have more : ∀ b ∈ wr, b ∈ a :: wr := fun b hb => List.mem_cons_of_mem _ hb
  induction left with
  | zero =>
    intro i s hl hi hst hS hR
    obtain rfl : i = n := by omega
    refine codeAny_builtin F.entry_set_update_loop ?_
    rw [Around.under_plainId F.plain_set_update_loop _]
    show wpAny _ A.in1 (pyNext (.ref I) >>= _) _ _ s
    refine wpAny_bind (W.done s _ _ hst fun s' mv => ?_)
    show wpAny _ A.in1 (ret Value.none) _ _ s'
    rw [List.take_of_length_le (show zs.length ≤ i by omega)] at hS
    exact wpAny_pure (hR s' (mv.mono more) (setOf_moved hS fun o e => mv.heap a o outw e))
  | succ left ih =>
    intro i s hl hi hst hS hR
    have lt : i < n := by omega
    refine codeAny_builtin F.entry_set_update_loop ?_
    rw [Around.under_plainId F.plain_set_update_loop _]
    show wpAny _ A.in1 (pyNext (.ref I) >>= _) _ _ s
    refine wpAny_bind (W.item i s _ _ lt hst fun v s' hP hst' mv => ?_)
    obtain ⟨z, t, hz, rfl⟩ := vals i v hP
    have hS' := setOf_moved hS (h' := s'.heap) fun o e => mv.heap a o outw e
    show wpAny _ A.in1 (holding [Value.str z t] (setAdd a (.str z t)) >>= _) _ _ s'
    refine wpAny_bind (wpAny_holding ?_)
    unfold setAdd
    refine wpAny_holding (wpAny_bind ((PySem.strKind P w).pyHash (k := z) (strKind_is _ _ _ _) ?_))
    have small : unl zs i + 1 < scanBound := by have := unl_le zs i; omega
    refine wpAny_setAddHashed_of (knd := PySem.strKind P w) (s := { s' with toks := s'.toks + 1 }) (strKind_is _ _ _ _) rfl hS' small fun h' same hS2 => ?_
    have hS3 : h'.SetOf (PySem.strKind P w) a (fun k => decide (k ∈ zs.take (i + 1))) (unl zs (i + 1)) := by
      refine setOf_as hS2 (fun k => ?_) ?_
      · rw [List.take_add_one, hz]
        simp [List.mem_append]
      · show (if decide (z ∈ zs.take i) = true then unl zs i else unl zs i + 1) = unl zs (i + 1)
        rw [unl, hz]
        simp only [decide_eq_true_eq]
    refine wpAny_pure ⟨plainId_quiet F.plain_set_update_loop _, ih (i + 1) _ (by omega) lt (W.frame _ s' _ _ hst' (Nat.le_succ _) fun b hb o e => ?_) hS3 fun s'' mv2 hS4 => ?_⟩
    · have nb : b ≠ a := fun h => out (h ▸ hb)
      rw [same.2 b nb]; exact e
    · refine hR s'' (Moved.trans W.gtrans ((mv.mono more).then_heap (Nat.le_succ _) fun b o hb e => ?_) mv2) hS4
      have nb : b ≠ a := fun h => hb (h ▸ List.mem_cons_self)
      rw [same.2 b nb]; exact e
/-- the set ahead of its items -/
def emptySet (w : World) : Obj := { cls := .type "set", dict := none, data := .set #[] 0 (.fresh 0 0 (!w.params.followText "set-order")) }
theorem strs_item {us : List Value} {zs : List Str} (h : StrsAre us zs) : ∀ {i : Nat} {v : Value}, us[i]? = some v → ∃ z t, zs[i]? = some z ∧ v = .str z t := by
  induction h with
  | nil => intro i v e; simp at e
  | cons z t r ih =>
    intro i v e
    cases i with
    | zero => simp at e; exact ⟨z, t, rfl, e.symm⟩
    | succ i => simpa using ih (by simpa using e)
theorem new_setOf {h : Heap} {a : Addr} {zs : List Str} (e : h.get? a = some (emptySet w)) : h.SetOf (PySem.strKind P w) a (fun k => decide (k ∈ zs.take 0)) (unl zs 0) :=
  ⟨_, #[], 0, _, e, ⟨rfl, rfl, rfl⟩, rfl, (fun e he => by simp at he), (fun k => by simp), (by decide), (by rfl), rfl⟩
set_option maxHeartbeats 8000000 in
theorem call_set_texts {l : Addr} {items : Array Value} (zs : List Str) {Q : Value → Shared → Prop} (cold : A.handled = none) (hl : s.heap.IsTuple l items) (hit : StrsAre items.toList zs) (few : zs.length + 1 < scanBound)
    (h : ∀ (h' : Heap) (tk : Nat), h'.SetOf (PySem.strKind P w) s.heap.objs.size (fun k => decide (k ∈ zs)) (unl zs zs.length) → (∀ b o, s.heap.get? b = some o → h'.get? b = some o) → Q (.ref s.heap.objs.size) { s with heap := h', toks := tk }) :
    wpAny (model P w) A (call (.type "set") [.ref l]) Q E s := by
  have size : items.size = zs.length := by
    have q := StrsAre.length hit
    rw [Array.length_toList] at q
    exact q
  obtain ⟨c, tl, hmro⟩ := F.called_set.mro
  have hmade := F.called_set.made
  have hsub := F.called_set.sub
  refine wpAny_call (codeAny_of_tree ?_)
  show wpAny _ _ (callAny (.type "set") _) _ _ _
  refine wpAny_pure ⟨Code.quiet_builtin _ (by decide +kernel), codeAny_builtin F.entry_type_call ?_⟩
  rw [Around.under_plain (weight_type_call_type "set" [.ref l] []) rfl]
  have h1 := F.called_set.notType
  have h2 := F.called_set.canCreate
  have hct := F.typeCall_set_1 (.ref l)
  repeat (any_goals (first | assumption | wp_step))
  refine codeAny_mono (code_set_led1 (.ref l) (E := E) (Q₁ := fun obj s₁ => obj = .ref s.heap.objs.size ∧ s₁ = { s with heap := s.heap.push (emptySet w) }) ⟨rfl, rfl⟩) fun r s₁ hr => ?_
  cases r with
  | error e => exact hr
  | ok fl =>
    cases fl with
    | ret obj =>
      obtain ⟨rfl, rfl⟩ := hr
      have hS : (s.heap.push (emptySet w)).get? s.heap.objs.size = some (emptySet w) := Heap.get?_push_size _ rfl
      have hT : Shared.TypeIs { s with heap := s.heap.push (emptySet w) } (.ref s.heap.objs.size) "set" := ⟨_, hS, rfl⟩
      have hli := F.called_set.init.lookup
      have hbi := F.called_set.init.bind (.ref s.heap.objs.size)
      repeat (any_goals (first | assumption | wp_step))
      refine codeAny_mono (codeAny_call_builtin (R := wants (fun r s₂ => r = .none ∧ ∃ h' tk, s₂ = { s with heap := h', toks := tk } ∧ h'.SetOf (PySem.strKind P w) s.heap.objs.size (fun k => decide (k ∈ zs)) (unl zs zs.length) ∧
          (∀ b o, s.heap.get? b = some o → h'.get? b = some o)) E) F.called_set.init.plain F.entry_set_init (check_set_init_1 hT ?_)) fun r₂ s₂ hr₂ => ?_
      · obtain ⟨⟨ocls, odict, odata, oslots⟩, hol, hcl, nl, hdl⟩ := hl
        simp only at hcl hdl
        subst hcl hdl
        have hol' : (s.heap.push (emptySet w)).get? l = some { cls := .type "tuple", dict := odict, data := .seq items nl, slots := oslots } := Heap.get?_push_of_some _ hol
        have hsls := F.sub_tuple_set
        have hslf := F.sub_tuple_frozenset
        have hne : (Value.type "tuple" == Value.type "dict") = false := by decide
        have hl1 : (s.heap.push (emptySet w)).IsTuple l items := ⟨_, hol', rfl, nl, rfl⟩
        unfold Builtin.«set.__init__» noKeywords Builtin.Frozenset.updateFrom
        generalize hPI : pyIter = PI
        wp_walk
        subst hPI
        refine wpAny_pyIter_tuple hl1 ?_
        refine wpAny_bind (wpAny_runValue ?_)
        have lS : l < s.heap.objs.size := Heap.lt_size hol
        have cold3 : A.in1.in1.in1.handled = none := by simp [cold]
        have apart : l ≠ (s.heap.push (emptySet w)).objs.size := by
          rw [Heap.size_push]; exact Nat.ne_of_lt (Nat.lt_succ_of_lt lS)
        have out : s.heap.objs.size ∉ [(s.heap.push (emptySet w)).objs.size, l] := by
          rw [Heap.size_push]; simp only [List.mem_cons, List.mem_singleton, List.not_mem_nil, or_false, not_or]
          exact ⟨Nat.ne_of_lt (Nat.lt_succ_self _), Nat.ne_of_gt lS⟩
        have vals : ∀ (i : Nat) (v : Value), items[i]? = some v → ∃ z t, zs[i]? = some z ∧ v = .str z t := fun i v hv => strs_item hit (by rw [Array.getElem?_toList]; exact hv)
        refine set_fill ((Walks.tuple cold3 _ l apart items).toS) s.heap.objs.size out zs size few vals (items.size - 0) 0 _ (by omega) (Nat.zero_le _) ⟨⟨_, Heap.get?_push_size _ rfl, rfl, rfl⟩, (hl1.push _)⟩ ?hS0 ?hR
        case hS0 => exact new_setOf (Heap.get?_push_of_some _ hS)
        case hR =>
          intro s' mv hS'
          obtain ⟨h', g2, d', tk', os'⟩ := s'
          have eg : g2 = s.gens := mv.gens
          have ed : d' = s.drawn := mv.drawn
          have eo : os' = s.os := mv.os
          subst eg; subst ed; subst eo
          show wpAny _ _ _ _ _ _
          refine wpAny_pure ?_
          show wpAny _ _ (ret Value.none) _ _ _
          rw [size] at hS'
          refine wpAny_pure ⟨rfl, h', tk', rfl, hS', fun b o e => ?_⟩
          have b0 : b < s.heap.objs.size := Heap.lt_size e
          have b1 : b ≠ s.heap.objs.size := Nat.ne_of_lt b0
          have b2 : b ≠ (s.heap.push (emptySet w)).objs.size := by
            rw [Heap.size_push]; exact Nat.ne_of_lt (Nat.lt_succ_of_lt b0)
          exact mv.heap b o (by simp only [List.mem_cons, List.mem_singleton, List.not_mem_nil, or_false, not_or]; exact ⟨b1, b2⟩) (Heap.get?_push_of_some _ (Heap.get?_push_of_some _ e))
      · cases r₂ with
        | error e => exact hr₂
        | ok fl₂ =>
          cases fl₂ with
          | ret r =>
            obtain ⟨rfl, h', tk, rfl, hS', hk'⟩ := hr₂
            repeat (any_goals (first | assumption | wp_step))
            exact h _ _ hS' hk'
          | _ => exact hr₂.elim
    | _ => exact hr.elim
end
/-- len(set(xs)) of texts -/
def strsS : List PyData → Option (List Str)
  | [] => some []
  | .str z :: r => (strsS r).map (z :: ·)
  | _ => none
def gLenSet : PyData → Option PyData
  | .tuple ds => (strsS ds).bind fun zs => if zs.length + 1 < scanBound then some (.int (unl zs zs.length)) else none
  | _ => none
section
variable {X : Cx} {Z : Par} {fa : DE}
theorem strsS_of {K : PySem.W.Frag} {mu : Addr → Prop} {H : Hp} : ∀ {ds : List PyData} {zs : List Str} {xs : List V}, strsS ds = some zs → DtAll K mu H xs ds → xs = zs.map V.str
  | [], _, _, e, .nil => by cases e; rfl
  | d :: ds, zs, _, e, .cons (v := v) h r => by
    unfold strsS at e
    split at e
    · rename_i q; cases q
    · rename_i z r' q
      cases q
      simp only [Option.map_eq_some_iff] at e
      obtain ⟨zs', e1, rfl⟩ := e
      rw [strsS_of e1 r, h.text]
      rfl
    · cases e
theorem dlenset {a : Expr} {p p2 q pos : Pos} (hc : X.calm = true) (hg : Gl X "len") (hm : X.mg "len" = none) (hg2 : Gl X "set") (hm2 : X.mg "set" = none) (ha : PE X a (lft X.K Z fa))
    (na : starEach [a] X.env = (false, eval a X.env) :: starEach [] X.env := by rfl) : PE X (.Call (.Name "len" p) [.Call (.Name "set" p2) [a] [] q] [] pos) (lft X.K Z (dUn gLenSet fa)) := by
  refine ⟨fun pins s σ H Q I h => ?_⟩
  obtain ⟨M, sl, d, sl', rl, hf, k⟩ := h
  obtain ⟨d1, f1, g1⟩ := dUn_some hf
  refine Call_ (ld_blt I hg hm boot_len ?_)
  refine PyProof.Rows.callWith_builtin1 (PyProof.Rows.args_cons ?_ rfl) rfl rfl
  refine Call_ (ld_blt I hg2 hm2 boot_set ?_)
  refine PyProof.Rows.callWith_type1 (PyProof.Rows.args_cons (thn (ha.run pins s σ H (fun v H1 => Kq Z M H M H1 ∧ Rel X.K Z M σ H1 sl' ∧ Dt X.K (Mu Z M) H1 v d1) I ⟨M, sl, d1, sl', rl, f1, fun v H' k1 r1 t1 => ⟨k1, r1, t1⟩⟩) fun v s1 ⟨x, H1, I1, r1, k1, r2, t1⟩ => PyProof.Rows.args_nil ?_) na) na rfl
  unfold gLenSet at g1
  split at g1
  case h_2 => cases g1
  rename_i ds
  simp only [Option.bind_eq_some_iff] at g1
  obtain ⟨zs, e1, e2⟩ := g1
  split at e2
  case isFalse => cases e2
  rename_i few
  cases e2
  obtain ⟨l, xs, rfl, hq, u1⟩ := t1.tuple
  obtain rfl := strsS_of e1 u1
  cases r1
  obtain ⟨its, r, pl, hz⟩ := I1.tuple hq
  refine call_set_texts zs (I1.ok.hd hc) pl (by simpa using strsAre_of r) few fun h' tk hS hk => ?_
  refine PyProof.Rows.args_nil ?_
  obtain ⟨o, es, ep, t, ho, hex, hd, _, _, _, hf', hn⟩ := hS
  have I2 : Inv X pins σ H1 { s1 with heap := h', toks := tk } := I1.kept fun b o e => hk b o e
  have := unl_le zs zs.length
  exact call_len_set ho hex hd hf' (by rw [hn]; unfold scanBound at few; omega) ⟨.int (unl zs zs.length), H1, I2.tok _, ⟨_, by rw [hn]⟩, k _ H1 k1 r2 (.int _)⟩
end
end Dl

/-! ### repr of data -/
namespace Dl
open PySem PySem.Spec PyProof.Rows L2
/-- what is known where a text of a thing is made: no text of a thing is being made, and where the modules' table stands -/
structure CG (X : Cx) : Prop where
  gd : X.A.guards = some []
  un : X.A.units + 100 < cLine
  sys : ∃ o es n, X.base.get? sysModules = some o ∧ o.data = .dict es n

mutual
def realAll : PyData → Bool
  | .list xs | .tuple xs => realAlls xs
  | .dict kvs => realKvs kvs
  | _ => true
def realAlls : List PyData → Bool
  | [] => true
  | x :: xs => realAll x && realAlls xs
def realKvs : List (PyData × PyData) → Bool
  | [] => true
  | (.none, _) :: _ => false
  | (_, v) :: r => realAll v && realKvs r
end
def gRepr : List PyData → Option PyData
  | [d] => if d.showable && realAll d && decide (d.shown.length ≤ sizeLine) && decide (d.depth ≤ 60) then some (.str d.shown) else none
  | _ => none

section
variable {X : Cx} {pins : List (Addr × Obj)} {σ : L2.St} {H : Hp} {s : Shared} {mu : Addr → Prop}
theorem sys_not (I : Inv X pins σ H s) (c : CG X) : H sysModules = none ∧ ∃ o es n, s.heap.get? sysModules = some o ∧ o.data = .dict es n := by
  obtain ⟨o, es, n, h1, h2⟩ := c.sys
  exact ⟨(I.bs _ _ h1).2, o, es, n, (I.bs _ _ h1).1, h2⟩
theorem list_not_sys {a : Addr} {its : Array Value} (I : Inv X pins σ H s) (c : CG X) (p : PlainL s.heap a its) : sysModules ≠ a := fun e => by
  obtain ⟨_, o, es, n, h1, h2⟩ := sys_not I c
  obtain ⟨o', n', q1, _, _, q2⟩ := p
  rw [e] at h1
  rw [h1] at q1
  cases q1
  rw [h2] at q2
  cases q2
mutual
theorem reads_of (I : Inv X pins σ H s) (c : CG X) : ∀ {v : V} {u : Value} {d : PyData}, Dt X.K mu H v d → RelV v u → realAll d = true → ∃ as, Reads s.heap u d as ∧ sysModules ∉ as
  | _, _, _, .non, r, _ => by cases r; exact ⟨[], .none, by simp⟩
  | _, _, _, .bl b, r, _ => by cases r; exact ⟨[], .bool b, by simp⟩
  | _, _, _, .int i, r, _ => by obtain ⟨t, rfl⟩ := r; exact ⟨[], .int i t, by simp⟩
  | _, _, _, .str x, r, _ => by obtain ⟨t, rfl⟩ := r; exact ⟨[], .str x t, by simp⟩
  | _, _, _, .lst h _ t, r, g => by
    cases r
    obtain ⟨its, r, p, _⟩ := I.list (.inl h)
    obtain ⟨as, h1, h2⟩ := readsAll_of I c t r (by simpa [realAll] using g)
    have ns := list_not_sys I c p
    obtain ⟨o, n, q1, q2, _, q3⟩ := p
    exact ⟨_, .list q1 q2 q3 (by simpa using h1), by simp [ns, h2]⟩
  | _, _, _, .scr h t, r, g => by simp [realAll, realKvs] at g
  | _, _, _, .tup h _ t, r, g => by
    cases r
    obtain ⟨its, r, ⟨o, q1, q2, n, q3⟩, _⟩ := I.tuple (.inl (.inl h))
    obtain ⟨as, h1, h2⟩ := readsAll_of I c t r (by simpa [realAll] using g)
    exact ⟨_, .tuple q1 q2 q3 (by simpa using h1), h2⟩
  | _, _, _, .tupK h _ t, r, g => by
    cases r
    obtain ⟨its, r, ⟨o, q1, q2, n, q3⟩, _⟩ := I.tuple (h H)
    obtain ⟨as, h1, h2⟩ := readsAll_of I c t r (by simpa [realAll] using g)
    exact ⟨_, .tuple q1 q2 q3 (by simpa using h1), h2⟩
  | _, _, _, .dct (a := a) h _ t, r, g => by
    cases r
    obtain ⟨_, ns, vs, kv, o, es, ep, q1, q2, q3, _, q4, _⟩ := I.hok _ _ h
    obtain ⟨as, bs, h1, h2, h3, h4⟩ := readsKv_of I c t kv q4 (by simpa [realAll] using g)
    exact ⟨_, .dict q1 q2.1 q3 h1 h2, by
      have no : sysModules ≠ a := fun e => (by rw [← e] at ns; simp at ns)
      simp [h3, h4, no]⟩
theorem readsAll_of (I : Inv X pins σ H s) (c : CG X) : ∀ {vs : List V} {us : List Value} {ds : List PyData}, DtAll X.K mu H vs ds → Vals vs us → realAlls ds = true → ∃ as, ReadsAll s.heap us ds as ∧ sysModules ∉ as
  | _, _, _, .nil, r, _ => by cases r; exact ⟨[], .nil, by simp⟩
  | _, _, _, .cons h t, .cons r1 r2, g => by
    simp only [realAlls, Bool.and_eq_true] at g
    obtain ⟨as, h1, h2⟩ := reads_of I c h r1 g.1
    obtain ⟨bs, h3, h4⟩ := readsAll_of I c t r2 g.2
    exact ⟨as ++ bs, .cons h1 h3, by simp [h2, h4]⟩
theorem readsKv_of (I : Inv X pins σ H s) (c : CG X) : ∀ {kvs : List (Key × V)} {vs : List (Key × Value)} {es : List DictEntry} {ds : List (PyData × PyData)}, DtKv X.K mu H kvs ds → KV kvs vs → Pairs (mixKind X.prog X.w) es vs → realKvs ds = true →
    ∃ as bs, ReadsAll s.heap (es.map (·.key)) (ds.map (·.1)) as ∧ ReadsAll s.heap (es.map (·.val)) (ds.map (·.2)) bs ∧ sysModules ∉ as ∧ sysModules ∉ bs
  | _, _, _, _, .nil, r, p, _ => by cases r; cases p; exact ⟨[], [], .nil, .nil, by simp, by simp⟩
  | _, _, _, _, .cons (k := k) (d := d) (ds := dr) h t, .cons (b := q) r1 r2, .cons p1 p2 p3, g => by
    obtain ⟨k', u⟩ := q
    obtain ⟨e1, r1⟩ := r1
    have e1' : k = k' := e1
    subst e1'
    have g' : realAll d = true ∧ realKvs dr = true := by
      cases k with
      | inl i => simpa [kD, realKvs] using g
      | inr x => simpa [kD, realKvs] using g
    obtain ⟨as, bs, h1, h2, h3, h4⟩ := readsKv_of I c t r2 p3 g'.2
    obtain ⟨cs, h5, h6⟩ := reads_of I c h r1 g'.1
    rw [List.map_cons, List.map_cons, List.map_cons, List.map_cons, p2]
    refine ⟨as, cs ++ bs, ?_, .cons h5 h2, h3, by simp [h6, h4]⟩
    rcases keyIs_shape p1 with ⟨i, t, e3, e4⟩ | ⟨x, t, e3, e4⟩
    · have e3' : k = Sum.inl i := e3
      subst e3'
      rw [e4]
      exact .cons (as := []) (.int i t) h1
    · have e3' : k = Sum.inr x := e3
      subst e3'
      rw [e4]
      exact .cons (as := []) (.str x t) h1
end
end
section
variable {X : Cx}
/-- what repr wants and gives -/
def rRepr (K : PySem.W.Frag) : List V → Hp → VK → Prop := fun xs H Q => ∃ mu d, DtAll K mu H xs [d] ∧ (d.showable && realAll d && decide (d.shown.length ≤ sizeLine) && decide (d.depth ≤ 60)) = true ∧ Q (.str d.shown) H
theorem call_repr (c : CG X) : CallR X (.builtin "repr") (rRepr X.K) := by
  intro pins s σ H xs us Q I r h
  obtain ⟨mu, d, t, g, q⟩ := h
  simp only [Bool.and_eq_true, decide_eq_true_eq] at g
  obtain ⟨⟨⟨g1, g2⟩, g3⟩, g4⟩ := g
  cases t with
  | cons h t =>
  cases t
  cases r with
  | cons r1 r2 =>
  cases r2
  obtain ⟨as, h1, h2⟩ := reads_of I c h r1 g2
  have out : ∀ {s' : Shared} {t : Tok}, Inv X pins σ H s' → EP X pins σ Q (.str d.shown t) s' := fun {s' t} I' => ⟨.str d.shown, H, I', ⟨t, rfl⟩, q⟩
  cases h1 with
  | none => exact P.repr_of_none (out (I.tok _))
  | bool b => exact P.repr_of_bool (by have z := out (t := s.toks) (I.tok (s.toks + 1)); simpa [PyData.shown] using z)
  | int i t => exact P.repr_of_int (by simpa [PyData.showable] using g1) (by have z := out (t := s.toks) (I.tok (s.toks + 1)); simpa [PyData.shown] using z)
  | str x t => exact P.repr_of_str (by have z := out (t := s.toks) (I.tok (s.toks + 1)); simpa [PyData.shown] using z) (by simpa [PyData.shown] using g3)
  | list a1 a2 a3 a4 => exact repr_of_reads' (.list a1 a2 a3 a4) g1 (fun _ => h2) c.gd (by have := c.un; omega) (fun _ _ e => e) (fun h' u tk hk => out (I.kept hk)) g3
  | tuple a1 a2 a3 a4 => exact repr_of_reads' (.tuple a1 a2 a3 a4) g1 (fun _ => h2) c.gd (by have := c.un; omega) (fun _ _ e => e) (fun h' u tk hk => out (I.kept hk)) g3
  | dict a1 a2 a3 a4 a5 => exact repr_of_reads' (.dict a1 a2 a3 a4 a5) g1 (fun _ => h2) c.gd (by have := c.un; omega) (fun _ _ e => e) (fun h' u tk hk => out (I.kept hk)) g3
theorem ok_repr {K : PySem.W.Frag} : CallOk K (rRepr K) gRepr := fun mu H xs ds d Q _ t e k => by
  unfold gRepr at e
  split at e
  · split at e
    case isFalse => cases e
    rename_i hg
    cases e
    exact ⟨mu, _, t, hg, k _ H (fun _ _ z => z) (.str _)⟩
  · cases e
end
end Dl

/-! ### the law's own call -/
namespace Dl
open PySem PySem.Spec PyProof.Rows L2
section
variable {P : Program} {w : World} {K : PySem.W.Frag} {mg : Str → Option Value} {base : Heap}
/-- a body of data run at the values handed in -/
theorem lf_start {N : List Str} {n : Nat} {b : DS} {vs : List V} {H : Hp} {Q : VK} {E : XK} (h : spP K (fnP N n b) vs H Q E) : ∃ Z : Par, lfS K Z b { nx := fun _ H' => Q .non H', rt := Q } (L2.start N vs) H := by
  obtain ⟨mu, ds, d, h1, h2, h3, h4⟩ := h
  unfold fnP at h3
  split at h3
  case isFalse => cases h3
  refine ⟨⟨H, none, mu⟩, [], startS N ds, ?_⟩
  have back : ∀ a, Mu ⟨H, none, mu⟩ [] a → mu a := fun a q => q.elim id fun q => q.elim (fun z => by cases z) fun z => by cases z
  have r : Rel K ⟨H, none, mu⟩ [] (L2.start N vs) H (startS N ds) := by
    refine ⟨fun _ _ e _ => e, fun _ ha => (by cases ha), h1, fun _ ha => (by cases ha), ?_⟩
    unfold startS L2.start
    rw [h2.len]
    exact slAll_start _ (h2.mono fun a o e n => ⟨e, fun z => n (back a z)⟩)
  have keep : ∀ {M : List Addr} {σ : L2.St} {H1 : Hp} {s1 : Sl}, Rel K ⟨H, none, mu⟩ M σ H1 s1 → ∀ a o, H a = some o → H1 a = some o := fun r1 a o e => r1.base a o e fun z => by cases z
  unfold outP at h3
  split at h3
  · rename_i d1 s1 hq
    cases h3
    exact ⟨_, r, hq, fun M σ H1 v k1 r1 t1 => h4 v H1 (keep r1) (t1.mono fun a o e n => ⟨e, fun z => n (.inl z)⟩)⟩
  · rename_i s1 hq
    cases h3
    exact ⟨_, r, hq, fun M σ H1 k1 r1 => h4 _ H1 (keep r1) .non⟩
  · cases h3
/-- a def of data, called where all around is known -/
theorem run_here {x p : Str} {st : Stmt} {f : Addr} {fd : FuncData} {N : List Str} {k : Nat} {b : DS} {A : Around} {outer : List Env} {s : Shared} {H : Hp} {u : Value} {v : V} {Q : VK}
    (F : Fun K x x st f fd) (S : FnScope N [p] (defScope st)) (room : Room (k + 1) A) (e0 : Env0 P w K mg base A outer s H) (bt : BindsTo s fd ⟨[u], []⟩ [(p, u)]) (rv : RelV v u)
    (hb : ∀ (cdv : Value) (Z : Par), Room k (A.deeper (envOfC x (defScope st) s.heap.objs.size f cdv)) → PSs (cxOf CX0 P w K mg base N x (defScope st) f cdv A outer s H E0).nox (defBody st) (lfS K Z b)) (q : spP K (fnP N 1 b) [v] H Q E0) :
    codeAny (model P w) A (.call (.ref f) ⟨[u], []⟩) (CR CX0 outer P w H s Q E0) s := by
  obtain ⟨⟨oc, od, kV, doc, pm, an, cdv, ct, osl, e1, lk, hcd⟩, kp⟩ := F
  subst e1
  have keeps : ∀ b o, base.get? b = some o → s.heap.get? b = some o := fun b o e => (e0.bs b o e).1
  have In := e0.mod.kin.keeps keeps
  have slots : ∀ y ∈ [(p, u)], (defScope st).names.lookup y.1 = some .local ∨ ((defScope st).names.lookup y.1 = some .cell ∧ ((cellsFrom (s.heap.objs.size + 1) (defScope st).names []).lookup y.1).isSome = true) := fun y hy => by
    obtain rfl := List.mem_singleton.mp hy
    exact (S.par p (List.mem_singleton.mpr rfl)).imp id fun z => ⟨z, PySem.W.cellsFrom_some _ _ _ (.inl z)⟩
  refine codeAny_call_function room.depth (In _ _ lk) rfl S.co S.gen rfl (PySem.W.codeRec_of In hcd) (bt _ _ _ _ (wpAny_newFunctionEnv_cells S.kind slots fun env he t0 io => ?_))
  cases he
  refine ⟨(e0.mod.nolimit.keeps keeps).keeps io.toInCall.keep, codeAny_func ?_⟩
  obtain ⟨Z, ready⟩ := lf_start q
  have begun : Inv (cxOf CX0 P w K mg base N x (defScope st) f cdv A outer s H E0) [] (L2.start N [v]) H t0 := inv_start S room.hd e0 rfl (.cons rv .nil) io
  refine wpAny_mono ((hb cdv Z (room.deeper _)).nox.run [] t0 _ H _ begun ready) (fun fl t1 done => ?_) fun _ _ z => z
  have close : ∀ {τ : L2.St} {H1 : Hp} {x1 : V} {y1 : Value}, Inv (cxOf CX0 P w K mg base N x (defScope st) f cdv A outer s H E0) [] τ H1 t1 → RelV x1 y1 → Q x1 H1 → CE outer P w H s Q y1 t1 := fun {_ H1 x1 _} J a c => ⟨x1, H1, J.os, J.bare, J.base, J.hok, a, c⟩
  match fl, done with
  | .ret _, ⟨_, _, _, J, a, c⟩ => exact close J a c
  | .next, ⟨_, _, J, c⟩ => exact close (x1 := V.non) J rfl c
  | .brk, ⟨_, _, _, z⟩ => exact z.elim
  | .cont, ⟨_, _, _, z⟩ => exact z.elim
end
end Dl
namespace Dl
open PySem PySem.Spec PyProof.Rows L2
section
variable {P : Program} {w : World} {K : PySem.W.Frag} {mg mb : Str → Option Value}
/-- the script as the law finds it: the caller's own list, or one of the module's -/
theorem script_in {h : Heap} {a : Addr} {vs : List Value} {ns : List Int} (KX : K.In h) (ha : h.get? a = some { cls := .type "list", data := .seq vs.toArray }) (hi : IntsAre vs ns) (few : ns.length ≤ sizeLine) :
    ∃ H : Hp, HOk P w H h ∧ (∀ b u, H b = some u → b = a ∧ K.lookup a = none ∧ ∃ o u', u = .frz o u') ∧ ((Rd H a (.lst (ns.map V.int))) ∨ ∀ H', SqL K H' a (ns.map V.int)) := by
  have rv := vals_ints hi
  have len : vs.length = ns.length := hi.length
  cases look : K.lookup a with
  | some o =>
    have same := KX a o look
    rw [ha] at same
    cases same
    refine ⟨fun _ => none, fun _ _ z => (by cases z), fun _ _ z => (by cases z), .inr fun H' => .inr ⟨_, vs.toArray, 0, look, rfl, rfl, rfl, by rw [List.size_toArray, len]; exact few, by simpa using rv⟩⟩
  | none =>
    let H : Hp := fun b => if b = a then some (.frz { cls := .type "list", data := .seq vs.toArray } (.lst (ns.map V.int))) else none
    have at_a : H a = some (.frz { cls := .type "list", data := .seq vs.toArray } (.lst (ns.map V.int))) := if_pos rfl
    have only : ∀ b u, H b = some u → b = a := fun b u z => by
      by_cases q : b = a
      · exact q
      · have n : H b = none := if_neg q
        rw [n] at z; cases z
    refine ⟨H, fun b u z => ?_, fun b u z => ⟨only b u z, rfl, ?_⟩, .inl (.inr ⟨_, at_a⟩)⟩
    · obtain rfl := only b u z
      rw [at_a] at z
      cases z
      exact ⟨ha, by rw [List.length_map]; exact few, vs, 0, rv, ha⟩
    · obtain rfl := only b u z
      rw [at_a] at z
      cases z
      exact ⟨_, _, rfl⟩
/-- the law's def of data, called at the script, where it gives True -/
theorem law_here {x p : Str} {st : Stmt} {fa a : Addr} {fd : FuncData} {N : List Str} {k : Nat} {b : DS} {s₁ : Shared} {vs : List Value} {ns : List Int}
    (KX : K.In s₁.heap) (hns : s₁.heap.Ns mainGlobals mg) (hbl : s₁.heap.Ns builtinsNs mb) (hbb : ∀ y : Str, y ≠ "__name__" → mb y = bootBuiltins y) (hlim : s₁.heap.NoLimit) (hmo : ∃ mm, s₁.heap.Ns sysModules mm) (hg : s₁.gens = #[])
    (ha : s₁.heap.get? a = some { cls := .type "list", data := .seq vs.toArray }) (hi : IntsAre vs ns) (few : ns.length ≤ sizeLine) (room : Room (k + 1) callerA) (F : Fun K x x st fa fd) (S : FnScope N [p] (defScope st)) (bt : ∀ (s : Shared) (u : Value), BindsTo s fd ⟨[u], []⟩ [(p, u)])
    (body : ∀ (base : Heap) (cdv : Value) (s : Shared) (H : Hp) (Z : Par), Mod K mg base → Room k (callerA.deeper (envOfC x (defScope st) s.heap.objs.size fa cdv)) → CG (cxOf CX0 P w K mg base N x (defScope st) fa cdv callerA [] s H E0).nox →
      PSs (cxOf CX0 P w K mg base N x (defScope st) fa cdv callerA [] s H E0).nox (defBody st) (lfS K Z b))
    (true_ : fnP N 1 b [.dict [(.none, .list (ns.map .int))]] = some (.bool true)) :
    codeAny (model P w) callerA (.call (.ref fa) ⟨[.ref a], []⟩) (fun r s' => r = .ok (.ret (.bool true)) ∧ OldK s₁.heap s'.heap ∧ s'.os = s₁.os ∧ AllBare s'.gens) s₁ := by
  obtain ⟨H, hok, hH, here⟩ := script_in (P := P) (w := w) KX ha hi few
  have dict_free : ∀ {c : Addr} {o : Obj} {es : Array DictEntry} {n : Nat}, s₁.heap.get? c = some o → o.data = .dict es n → H c = none := fun {c o es n} e d => by
    cases z : H c with
    | none => rfl
    | some u =>
      obtain ⟨rfl, _⟩ := hH c u z
      rw [ha] at e
      cases e
      exact absurd (show Data.seq vs.toArray 0 = Data.dict es n from d) (by simp)
  have ns_in : ∀ {c : Addr} {m : Str → Option Value}, s₁.heap.Ns c m → (hidT s₁.heap H).Ns c m := fun ⟨o, es, n, e, d, r⟩ => ⟨o, es, n, hidT_get e (dict_free e d), d, r⟩
  have mod : Mod K mg (hidT s₁.heap H) := {
    kin := fun c o e => hidT_get (KX c o e) (by
      cases z : H c with
      | none => rfl
      | some u =>
        obtain ⟨rfl, q, _⟩ := hH c u z
        rw [q] at e; cases e)
    glob := ns_in hns
    blt := ⟨mb, ns_in hbl, hbb⟩
    nolimit := let ⟨mc, q1, q2⟩ := hlim; ⟨mc, ns_in q1, q2⟩ }
  have e0 : Env0 P w K mg (hidT s₁.heap H) callerA [] s₁ H := ⟨rfl, mod, fun _ _ e => of_hidT e, by rw [hidT_size]; exact Nat.le_refl _, trivial, fun c hc => (by cases hc), hok, .of_eq hg⟩
  have sys : ∃ o es n, (hidT s₁.heap H).get? sysModules = some o ∧ o.data = .dict es n := by
    obtain ⟨mm, o, es, n, e, d, _⟩ := hmo
    exact ⟨o, es, n, hidT_get e (dict_free e d), d⟩
  have t : Dt K (fun _ => False) H (.ref a) (.dict [(.none, .list (ns.map .int))]) := .scr (here.imp (fun z => ⟨z, fun z => z⟩) id) (dtAll_ints ns)
  refine codeAny_mono (run_here (v := .ref a) (Q := fun v _ => v = .bl true) F S room e0 (bt s₁ (.ref a)) rfl (fun cdv Z r => body _ cdv s₁ H Z mod r ⟨rfl, by show 4 + 3 + 100 < 9900; omega, sys⟩)
    ⟨fun _ => False, _, _, fun _ z => z.elim, .cons t .nil, true_, fun v H' _ tv => tv.bool⟩) fun r s' done => ?_
  match r, done with
  | .ok (.ret u), ⟨v, H', os, bare, un, ok', rv, q⟩ =>
    subst q
    obtain rfl : u = .bool true := rv
    refine ⟨rfl, OldK.of_keep fun c o e => ?_, os, bare⟩
    cases z : H c with
    | none => exact un.keep c o e z (by simp [frs]) (by simp)
    | some u =>
      obtain ⟨rfl, _, o', u', rfl⟩ := hH c u z
      have stay := (ok' c _ (un.frzs c o' u' z)).1
      have was := (hok c _ z).1
      rw [was] at e
      cases e
      exact stay
  | .ok .next, z => exact z.elim
  | .ok .brk, z => exact z.elim
  | .ok .cont, z => exact z.elim
  | .error e, z => exact (show False from z).elim
end
end Dl

/-! ### a law's head: what the top has written, by names -/
namespace Dl
open PySem PySem.Spec PyProof.Rows L2
mutual
/-- the value u of the module reads as the tree d -/
def rdB (K : PySem.W.Frag) : PyData → Value → Bool
  | .none, .none => true
  | .bool b, .bool c => decide (b = c)
  | .int i, .int j _ => decide (i = j)
  | .str x, .str y _ => decide (x = y)
  | .tuple ds, .ref a => match K.lookup a with
    | some ⟨.type t, _, .seq its _, _⟩ => decide (t = "tuple") && (decide (its.size ≤ sizeLine) && (keyless ds && rdBs K ds its.toList))
    | _ => false
  | _, _ => false
def rdBs (K : PySem.W.Frag) : List PyData → List Value → Bool
  | [], [] => true
  | d :: ds, u :: us => rdB K d u && rdBs K ds us
  | _, _ => false
end
mutual
theorem rdB_ok {K : PySem.W.Frag} : ∀ {d : PyData} {u : Value}, rdB K d u = true → ∃ v, RelV v u ∧ ∀ mu H, Dt K mu H v d
  | .none, u, h => by
    cases u <;> first | exact ⟨.non, rfl, fun _ _ => .non⟩ | (simp [rdB] at h)
  | .bool b, u, h => by
    cases u <;> first | (have e : b = _ := of_decide_eq_true h; subst e; exact ⟨.bl _, rfl, fun _ _ => .bl _⟩) | (simp [rdB] at h)
  | .int i, u, h => by
    cases u <;> first | (have e : i = _ := of_decide_eq_true h; subst e; exact ⟨.int _, ⟨_, rfl⟩, fun _ _ => .int _⟩) | (simp [rdB] at h)
  | .str x, u, h => by
    cases u <;> first | (have e : x = _ := of_decide_eq_true h; subst e; exact ⟨.str _, ⟨_, rfl⟩, fun _ _ => .str _⟩) | (simp [rdB] at h)
  | .tuple ds, u, h => by
    cases u with
    | ref a =>
      unfold rdB at h
      split at h
      · rename_i t od its n sl look
        simp only [Bool.and_eq_true, decide_eq_true_eq] at h
        obtain ⟨e, few, kl, h⟩ := h
        subst e
        obtain ⟨vs, r, t⟩ := rdBs_ok h
        exact ⟨.ref a, rfl, fun mu H => .tupK (fun H' => .inr ⟨_, its, n, look, rfl, rfl, few, r⟩) kl (t mu H)⟩
      · cases h
    | _ => simp [rdB] at h
  | .list ds, u, h => by cases u <;> simp [rdB] at h
  | .dict ds, u, h => by cases u <;> simp [rdB] at h
theorem rdBs_ok {K : PySem.W.Frag} : ∀ {ds : List PyData} {us : List Value}, rdBs K ds us = true → ∃ vs, Vals vs us ∧ ∀ mu H, DtAll K mu H vs ds
  | [], us, h => by
    cases us with
    | nil => exact ⟨[], .nil, fun _ _ => .nil⟩
    | cons => simp [rdBs] at h
  | d :: ds, us, h => by
    cases us with
    | nil => simp [rdBs] at h
    | cons u us =>
      simp only [rdBs, Bool.and_eq_true] at h
      obtain ⟨v, r1, t1⟩ := rdB_ok h.1
      obtain ⟨vs, r2, t2⟩ := rdBs_ok h.2
      exact ⟨v :: vs, .cons r1 r2, fun mu H => .cons (t1 mu H) (t2 mu H)⟩
end
def gcB (K : PySem.W.Frag) (c : Str × PyData) : Bool := match PySem.W.nsIn K mainGlobals c.1 with
  | some (some u) => rdB K c.2 u
  | _ => false
theorem gc_ok {K : PySem.W.Frag} {h : Heap} {mg : Str → Option Value} (X : K.In h) (G : h.Ns mainGlobals mg) {x : Str} {d : PyData} (c : gcB K (x, d) = true) : GC K mg x d := by
  unfold gcB at c
  split at c
  · rename_i u e
    obtain ⟨v, r, t⟩ := rdB_ok c
    exact ⟨u, v, PySem.W.mg_of X G e, r, t⟩
  · cases c
/-! ### the head's facts: built-ins' names free, defs, constants -/
def dOf (x : Str) (st : Stmt) : He.DefD := ⟨(x, none), x, x, defArgs st, defBody st, defScope st, [], []⟩
def obsM (n : Nat) (fa : List He.Fa) (fn : List He.DefD) (cs : List (Str × PyData)) (g : Addr → Option Obj) : Bool × He.AlD :=
  (cs.all (gcB (He.frG g (He.asD g n))), He.obsDG n fa fn g)
def hookM (n : Nat) (fa : List He.Fa) (fn : List He.DefD) (cs : List (Str × PyData)) : PySem.W.Hook where
  α := Bool × He.AlD
  obs := fun s => obsM n fa fn cs s.heap.get?
  val := fun _ => (true, He.valD fn)
  says := fun _ h => ∃ K : PySem.W.Frag, K.In h ∧ He.SaysD fa fn K ∧ cs.all (gcB K) = true
  of := fun _ _ e => ⟨_, He.frG_in, congrArg Prod.snd e, congrArg Prod.fst e⟩
  keeps := fun _ _ _ ⟨K, X, c⟩ k => ⟨K, PySem.W.Frag.In.keeps X k, c⟩
theorem obsM_eq {n : Nat} {fa : List He.Fa} {fn : List He.DefD} {cs : List (Str × PyData)} {g : Addr → Option Obj} {s : Shared} (h : ∀ a, g a = s.heap.get? a) : obsM n fa fn cs g = (hookM n fa fn cs).obs s := by
  obtain rfl : g = s.heap.get? := funext h
  rfl
section
variable {K : PySem.W.Frag} {h : Heap} {mg : Str → Option Value} {fa : List He.Fa} {fn : List He.DefD} {cs : List (Str × PyData)}
theorem const_of (X : K.In h) (G : h.Ns mainGlobals mg) (c : cs.all (gcB K) = true) (i : Nat) {x : Str} {d : PyData} (at_ : cs[i]? = some (x, d) := by rfl) : GC K mg x d :=
  gc_ok X G (List.all_eq_true.mp c _ (List.mem_of_getElem? at_))
theorem free_of (X : K.In h) (G : h.Ns mainGlobals mg) (c : He.SaysD fa fn K) (i : Nat) {x : Str} (at_ : fa[i]? = some (.free x) := by rfl) : mg x = none := He.free_ok X G (c.fact i at_)
theorem std_of (X : K.In h) (G : h.Ns mainGlobals mg) (c : He.SaysD fa fn K) (i j : Nat) {x : Str} {st : Stmt} {ps : List Str} (at_ : fn[i]? = some (dOf x st)) (gl : fa[j]? = some (.glo x))
    (bind : ∀ (kV doc pm : Value) (an : Option Addr) (cdv ct : Value) (us : List Value), us.length = ps.length → bindArgs (PySem.W.fnOf x x (defArgs st) (defBody st) (defScope st) .none kV doc pm an cdv ct) ⟨us, []⟩ = pure (ps.zip us)) : Std K mg x st ps := by
  obtain ⟨fd, F⟩ := c.def_ i at_
  have F' : Fun K x x st (He.ga K x) fd := He5.fun_of F
  exact ⟨_, fd, F', He.glo_ok X G (c.fact j gl), F'.binds bind⟩
end
/-- the law walked: what is asked of the program is that its meaning at each script is True -/
theorem walk_data {l : PySem.W.OpenLaw} {n k : Nat} {q : Program} {loose : List Str} {XP : (Str → Option Value) → Heap → Prop} {d : DefRec} {fa : List He.Fa} {fn : List He.DefD} {cs : List (Str × PyData)} {m : Nat} {x p : Str} {st : Stmt} {N : List Str} {b : DS}
    (most : l.most = some n) (few : n ≤ sizeLine) (hdf : d.params.defaults = []) (name : d.name = x) (alone : importsNone q = true) (room : Room (k + 1) callerA) (S : FnScope N [p] (defScope st))
    (F : ∀ (w : World) (mg : Str → Option Value) (h : Heap) (K : PySem.W.Frag), K.In h → h.Ns mainGlobals mg → He.SaysD fa fn K → cs.all (gcB K) = true → ∃ (f : Addr) (fd : FuncData), mg x = some (.ref f) ∧ Fun K x x st f fd ∧ (∀ (s : Shared) (u : Value), BindsTo s fd ⟨[u], []⟩ [(p, u)]) ∧
      ∀ (base : Heap) (cdv : Value) (s : Shared) (H : Hp) (Z : Par), Mod K mg base → Room k (callerA.deeper (envOfC x (defScope st) s.heap.objs.size f cdv)) → CG (cxOf CX0 l.prog w K mg base N x (defScope st) f cdv callerA [] s H E0).nox →
        PSs (cxOf CX0 l.prog w K mg base N x (defScope st) f cdv callerA [] s H E0).nox (defBody st) (lfS K Z b))
    (T : ∀ ns : List Int, ns.length ≤ n → fnP N 1 b [.dict [(.none, .list (ns.map .int))]] = some (.bool true)) :
    PySem.W.WalkO q loose XP (hookM m fa fn cs).says l.row.toRowW d [] (fun f vs => PySem.call f vs) := by
  refine Att.attach_call most hdf fun w s₀ s₁ mg mb f o pm cd doc a vs ns G Y _ _ _ hmg hobj hints hlen hg => ?_
  obtain ⟨K, X, c1, c2⟩ := Y
  obtain ⟨f', fd, e, Fn, bt, body⟩ := F w mg _ K X G.T.g c1 c2
  rw [name] at hmg
  cases e.symm.trans hmg
  obtain ⟨mm, sees, _⟩ := (G.T.seer alone).mods
  exact law_here X G.T.g G.T.b G.T.builtins G.T.nolimit ⟨mm, sees⟩ hg hobj hints (Nat.le_trans hlen few) room Fn S bt body (T ns hlen)
end Dl

/-! ### what a meaning gives: rules from the outside in -/
namespace Dl
open PySem PySem.Spec PyProof.Rows L2
structure Gd {α : Type} (o : Option α) (Q : α → Prop) : Prop where
  ex : ∃ a, o = some a ∧ Q a
structure Ge {α : Type} (o : Option (α × Sl)) (Q : α → Sl → Prop) : Prop where
  ex : ∃ a s, o = some (a, s) ∧ Q a s
structure Gs (o : Option Fl) (N : Sl → Prop) (R : PyData → Sl → Prop) : Prop where
  ex : (∃ s, o = some (.nx s) ∧ N s) ∨ ∃ d s, o = some (.rt d s) ∧ R d s
section
variable {α β : Type} {Q : PyData → Sl → Prop} {QA : List PyData → Sl → Prop} {QT : Bool → Sl → Prop} {N : Sl → Prop} {R : PyData → Sl → Prop} {s : Sl} {i j : Nat} {d : PyData} {fa fb fc : DE} {ga gb : DA} {ff : DF} {t t' : DT} {f g : DS} {D : PyData → Prop}
theorem gd {o : Option α} {a : α} {q : α → Prop} (e : o = some a) (h : q a) : Gd o q := ⟨a, e, h⟩
theorem gd_mono {o : Option α} {q r : α → Prop} (h : Gd o q) (k : ∀ a, q a → r a) : Gd o r := by
  obtain ⟨a, e, h⟩ := h
  exact ⟨a, e, k a h⟩
theorem ge_mono {o : Option (α × Sl)} {q r : α → Sl → Prop} (h : Ge o q) (k : ∀ a s, q a s → r a s) : Ge o r := by
  obtain ⟨a, s, e, h⟩ := h
  exact ⟨a, s, e, k a s h⟩
theorem gs_mono {o : Option Fl} {N' : Sl → Prop} {R' : PyData → Sl → Prop} (h : Gs o N R) (k : ∀ s, N s → N' s) (l : ∀ d s, R d s → R' d s) : Gs o N' R' := by
  obtain ⟨⟨s, e, h⟩ | ⟨d, s, e, h⟩⟩ := h
  · exact ⟨.inl ⟨s, e, k s h⟩⟩
  · exact ⟨.inr ⟨d, s, e, l d s h⟩⟩
theorem e_var (h : s[i]? = some (.dat d)) (k : Q d s) : Ge (dVar i s) Q := ⟨d, s, by unfold dVar; rw [h], k⟩
theorem e_c (k : Q d s) : Ge (dC d s) Q := ⟨d, s, rfl, k⟩
theorem e_op {g : PyData → PyData → Option PyData} (h : Ge (fa s) fun a s1 => Ge (fb s1) fun b s2 => Gd (g a b) fun d => Q d s2) : Ge (dOp g fa fb s) Q := by
  obtain ⟨a, s1, e1, b, s2, e2, d, e3, k⟩ := h
  exact ⟨d, s2, by unfold dOp; rw [e1, Option.bind_some, e2, Option.bind_some, e3]; rfl, k⟩
theorem e_un {g : PyData → Option PyData} (h : Ge (fa s) fun a s1 => Gd (g a) fun d => Q d s1) : Ge (dUn g fa s) Q := by
  obtain ⟨a, s1, e1, d, e3, k⟩ := h
  exact ⟨d, s1, by unfold dUn; rw [e1, Option.bind_some, e3]; rfl, k⟩
theorem e_chain {g g' : PyData → PyData → Option PyData} (h : Ge (fa s) fun a s1 => Ge (fb s1) fun b s2 => Gd (g a b) fun c => (c = .bool true ∧ Ge (fc s2) fun w s3 => Gd (g' b w) fun d => Q d s3) ∨ (c = .bool false ∧ Q (.bool false) s2)) : Ge (dChain g g' fa fb fc s) Q := by
  obtain ⟨a, s1, e1, b, s2, e2, c, e3, ⟨rfl, w, s3, e4, d, e5, k⟩ | ⟨rfl, k⟩⟩ := h
  · exact ⟨d, s3, by unfold dChain; rw [e1, Option.bind_some, e2, Option.bind_some, e3, Option.bind_some]; simp only [e4, Option.bind_some, e5, Option.map_some], k⟩
  · exact ⟨_, s2, by unfold dChain; rw [e1, Option.bind_some, e2, Option.bind_some, e3, Option.bind_some], k⟩
theorem e_l (h : Ge (ff s) fun ds s1 => Q (.list ds) s1) : Ge (dL ff s) Q := by
  obtain ⟨ds, s1, e, k⟩ := h
  exact ⟨_, s1, by unfold dL; rw [e]; rfl, k⟩
theorem e_b {g : List PyData → Option PyData} (h : Ge (ga s) fun ds s1 => Gd (g ds) fun d => Q d s1) : Ge (dB g ga s) Q := by
  obtain ⟨ds, s1, e, d, e2, k⟩ := h
  exact ⟨d, s1, by unfold dB; rw [e, Option.bind_some, e2]; rfl, k⟩
theorem e_tup (h : Ge (ga s) fun ds s1 => ds.length ≤ sizeLine ∧ Q (.tuple ds) s1) : Ge (dTup ga s) Q := by
  obtain ⟨ds, s1, e, l, k⟩ := h
  exact ⟨_, s1, by unfold dTup; rw [e, Option.bind_some, if_pos l], k⟩
theorem e_call {m : List PyData → Option PyData} (h : Ge (ga s) fun ds s1 => Gd (m ds) fun d => Q d s1) : Ge (dCall m ga s) Q := by
  obtain ⟨ds, s1, e, d, e2, k⟩ := h
  exact ⟨d, s1, by unfold dCall; rw [e, Option.bind_some, e2]; rfl, k⟩
theorem e_callM {m : List PyData → List PyData → Option (PyData × List PyData)} {p0 : List PyData} (c : contents s i = some p0) (h : Ge (ga s) fun ds s1 => ∃ pd, contents s1 i = some pd ∧ Gd (m pd ds) fun q => Q q.1 (setC s1 i q.2)) : Ge (dCallM m i ga s) Q := by
  obtain ⟨ds, s1, e, pd, e2, q, e3, k⟩ := h
  exact ⟨_, _, by unfold dCallM; rw [c, Option.bind_some, e, Option.bind_some, e2, Option.bind_some, e3]; rfl, k⟩
theorem e_ixc {p0 : List PyData} (c : contents s i = some p0) (h : Ge (fa s) fun k s1 => ∃ (n : Int) (ds : List PyData), k = .int n ∧ contents s1 i = some ds ∧ Gd (atI ds n) fun d => Q d s1) : Ge (dIxC i fa s) Q := by
  obtain ⟨k, s1, e, n, ds, rfl, e2, d, e3, q⟩ := h
  exact ⟨d, s1, by unfold dIxC; rw [c, Option.bind_some, e, Option.bind_some, e2, Option.bind_some]; simp only [e3, Option.map_some], q⟩
theorem e_and (h : Ge (fa s) fun a s1 => ∃ b, a = .bool b ∧ ((b = true ∧ Ge (fb s1) Q) ∨ (b = false ∧ Q (.bool false) s1))) : Ge (dAnd fa fb s) Q := by
  obtain ⟨a, s1, e, b, rfl, ⟨rfl, d, s2, e2, k⟩ | ⟨rfl, k⟩⟩ := h
  · exact ⟨d, s2, by unfold dAnd dTst; rw [e]; simp only [Option.bind_some, if_true, e2], k⟩
  · exact ⟨_, s1, by unfold dAnd dTst; rw [e]; simp, k⟩
theorem e_or (h : Ge (fa s) fun a s1 => ∃ b, a = .bool b ∧ ((b = true ∧ Q (.bool true) s1) ∨ (b = false ∧ Ge (fb s1) Q))) : Ge (dOr fa fb s) Q := by
  obtain ⟨a, s1, e, b, rfl, ⟨rfl, k⟩ | ⟨rfl, d, s2, e2, k⟩⟩ := h
  · exact ⟨_, s1, by unfold dOr dTst; rw [e]; simp, k⟩
  · exact ⟨d, s2, by unfold dOr dTst; rw [e]; simp [e2], k⟩
theorem e_not (h : Ge (fa s) fun a s1 => ∃ b, a = .bool b ∧ Q (.bool (!b)) s1) : Ge (dNot fa s) Q := by
  obtain ⟨a, s1, e, b, rfl, k⟩ := h
  exact ⟨_, s1, by unfold dNot dTst; rw [e]; rfl, k⟩
theorem e_if (h : Ge (t s) fun b s1 => (b = true ∧ Ge (fa s1) Q) ∨ (b = false ∧ Ge (fb s1) Q)) : Ge (dIf t fa fb s) Q := by
  obtain ⟨b, s1, e, ⟨rfl, d, s2, e2, k⟩ | ⟨rfl, d, s2, e2, k⟩⟩ := h
  · exact ⟨d, s2, by unfold dIf; rw [e]; simp [e2], k⟩
  · exact ⟨d, s2, by unfold dIf; rw [e]; simp [e2], k⟩
theorem e_sl {lo hi : DO} (h : Ge (fa s) fun a s1 => Ge (lo s1) fun l s2 => Ge (hi s2) fun r s3 => Gd (gSl a l r) fun d => Q d s3) : Ge (dSl fa lo hi s) Q := by
  obtain ⟨a, s1, e1, l, s2, e2, r, s3, e3, d, e4, k⟩ := h
  exact ⟨d, s3, by unfold dSl; rw [e1, Option.bind_some, e2, Option.bind_some, e3, Option.bind_some, e4]; rfl, k⟩
theorem o_n {q : Option Int → Sl → Prop} (k : q none s) : Ge (oN s) q := ⟨none, s, rfl, k⟩
theorem o_s {q : Option Int → Sl → Prop} (h : Ge (fa s) fun a s1 => ∃ n : Int, a = .int n ∧ q (some n) s1) : Ge (oS fa s) q := by
  obtain ⟨a, s1, e, n, rfl, k⟩ := h
  exact ⟨some n, s1, by unfold oS; rw [e]; rfl, k⟩
theorem a_nil (k : QA [] s) : Ge (aNil s) QA := ⟨[], s, rfl, k⟩
theorem a_cons (h : Ge (fa s) fun a s1 => Ge (ga s1) fun r s2 => QA (a :: r) s2) : Ge (aCons fa ga s) QA := by
  obtain ⟨a, s1, e1, r, s2, e2, k⟩ := h
  exact ⟨_, s2, by unfold aCons; rw [e1, Option.bind_some, e2]; rfl, k⟩
theorem f_lst (h : Ge (ga s) fun ds s1 => ds.length ≤ sizeLine ∧ QA ds s1) : Ge (fLst ga s) QA := by
  obtain ⟨ds, s1, e, l, k⟩ := h
  exact ⟨ds, s1, by unfold fLst; rw [e, Option.bind_some, if_pos l], k⟩
theorem f_call {m : List PyData → Option (List PyData)} (h : Ge (ga s) fun ds s1 => Gd (m ds) fun d => QA d s1) : Ge (fCall m ga s) QA := by
  obtain ⟨ds, s1, e, d, e2, k⟩ := h
  exact ⟨d, s1, by unfold fCall; rw [e, Option.bind_some, e2]; rfl, k⟩
theorem f_itA (h : Ge (fa s) fun a s1 => (∃ ds, (a = .list ds ∨ a = .tuple ds) ∧ QA ds s1) ∨ ∃ x, a = .str x ∧ QA (signs x) s1) : Ge (itA fa s) QA := by
  obtain ⟨a, s1, e, ⟨ds, rfl | rfl, k⟩ | ⟨x, rfl, k⟩⟩ := h
  · exact ⟨ds, s1, by unfold itA; rw [e]; rfl, k⟩
  · exact ⟨ds, s1, by unfold itA; rw [e]; rfl, k⟩
  · exact ⟨_, s1, by unfold itA; rw [e]; rfl, k⟩
theorem f_r1 (h : Ge (fa s) fun a s1 => ∃ n : Int, a = .int n ∧ 0 ≤ n ∧ n < 2 ^ 62 ∧ QA (rng 0 n) s1) : Ge (itR1 fa s) QA := by
  obtain ⟨a, s1, e, n, rfl, l1, l2, k⟩ := h
  exact ⟨_, s1, by unfold itR1; rw [e, Option.bind_some]; simp only; rw [if_pos ⟨by omega, l2⟩], k⟩
theorem t_tst (h : Ge (fa s) fun a s1 => ∃ b, a = .bool b ∧ QT b s1) : Ge (dTst fa s) QT := by
  obtain ⟨a, s1, e, b, rfl, k⟩ := h
  exact ⟨b, s1, by unfold dTst; rw [e]; rfl, k⟩
theorem t_and (h : Ge (t s) fun b s1 => (b = true ∧ Ge (t' s1) QT) ∨ (b = false ∧ QT false s1)) : Ge (dAndT t t' s) QT := by
  obtain ⟨b, s1, e, ⟨rfl, b', s2, e2, k⟩ | ⟨rfl, k⟩⟩ := h
  · exact ⟨b', s2, by unfold dAndT; rw [e]; simp [e2], k⟩
  · exact ⟨_, s1, by unfold dAndT; rw [e]; simp, k⟩
theorem t_or (h : Ge (t s) fun b s1 => (b = true ∧ QT true s1) ∨ (b = false ∧ Ge (t' s1) QT)) : Ge (dOrT t t' s) QT := by
  obtain ⟨b, s1, e, ⟨rfl, k⟩ | ⟨rfl, b', s2, e2, k⟩⟩ := h
  · exact ⟨_, s1, by unfold dOrT; rw [e]; simp, k⟩
  · exact ⟨b', s2, by unfold dOrT; rw [e]; simp [e2], k⟩
theorem t_not (h : Ge (t s) fun b s1 => QT (!b) s1) : Ge (dNotT t s) QT := by
  obtain ⟨b, s1, e, k⟩ := h
  exact ⟨_, s1, by unfold dNotT; rw [e]; rfl, k⟩
theorem t_yes (k : QT true s) : Ge (tYesD s) QT := ⟨true, s, rfl, k⟩
theorem s_seq (h : Gs (f s) (fun s1 => Gs (g s1) N R) R) : Gs (sSeq f g s) N R := by
  obtain ⟨⟨s1, e, h⟩ | ⟨d, s1, e, h⟩⟩ := h
  · obtain ⟨⟨s2, e2, h⟩ | ⟨d, s2, e2, h⟩⟩ := h
    · exact ⟨.inl ⟨s2, by unfold sSeq; rw [e]; exact e2, h⟩⟩
    · exact ⟨.inr ⟨d, s2, by unfold sSeq; rw [e]; exact e2, h⟩⟩
  · exact ⟨.inr ⟨d, s1, by unfold sSeq; rw [e]; rfl, h⟩⟩
theorem s_nil (k : N s) : Gs (sNil s) N R := ⟨.inl ⟨s, rfl, k⟩⟩
theorem s_set (h : Ge (fa s) fun d s1 => N (s1.set i (.dat d))) : Gs (sSet i fa s) N R := by
  obtain ⟨d, s1, e, k⟩ := h
  exact ⟨.inl ⟨_, by unfold sSet; rw [e]; rfl, k⟩⟩
theorem s_own (h : Ge (ff s) fun d s1 => i < s1.length ∧ N (s1.set i (.own d))) : Gs (sOwn i ff s) N R := by
  obtain ⟨d, s1, e, l, k⟩ := h
  exact ⟨.inl ⟨_, by unfold sOwn; rw [e, Option.bind_some, if_pos l], k⟩⟩
theorem s_ret (h : Ge (fa s) fun d s1 => R d s1) : Gs (sRet fa s) N R := by
  obtain ⟨d, s1, e, k⟩ := h
  exact ⟨.inr ⟨d, s1, by unfold sRet; rw [e]; rfl, k⟩⟩
theorem s_if (h : Ge (t s) fun b s1 => (b = true ∧ Gs (f s1) N R) ∨ (b = false ∧ Gs (g s1) N R)) : Gs (sIf t f g s) N R := by
  obtain ⟨b, s1, e, ⟨rfl, h⟩ | ⟨rfl, h⟩⟩ := h
  · have q : sIf t f g s = f s1 := by unfold sIf; rw [e]; simp
    rw [q]; exact h
  · have q : sIf t f g s = g s1 := by unfold sIf; rw [e]; simp
    rw [q]; exact h
theorem s_frz {ds : List PyData} (h : s[i]? = some (.own ds)) (k : N (s.set i (.dat (.list ds)))) : Gs (sFrz i s) N R := ⟨.inl ⟨_, by unfold sFrz; rw [h], k⟩⟩
theorem s_app {p0 : List PyData} (c : contents s i = some p0) (h : Ge (fa s) fun d s1 => ∃ ds, contents s1 i = some ds ∧ ds.length < sizeLine ∧ N (setC s1 i (ds ++ [d]))) : Gs (sApp i fa s) N R := by
  obtain ⟨d, s1, e, ds, e2, l, k⟩ := h
  exact ⟨.inl ⟨_, by unfold sApp; rw [c, Option.bind_some, e, Option.bind_some, e2, Option.bind_some, if_pos l], k⟩⟩
theorem s_setIx (h : Ge (fa s) fun d s1 => ∃ p0, contents s1 i = some p0 ∧ Ge (fb s1) fun k s2 => ∃ (n : Int) (ds : List PyData), k = .int n ∧ contents s2 i = some ds ∧ Gd (ixN ds.length n) fun j => N (setC s2 i (ds.set j d))) : Gs (sSetIx i fa fb s) N R := by
  obtain ⟨d, s1, e, p0, e2, k, s2, e3, n, ds, rfl, e4, j, e5, q⟩ := h
  exact ⟨.inl ⟨_, by unfold sSetIx; rw [e, Option.bind_some, e2, Option.bind_some, e3, Option.bind_some, e4, Option.bind_some]; simp only [e5, Option.map_some], q⟩⟩
theorem s_asg {gdt : PyData → Sl → Option Sl} (h : Ge (fa s) fun d s1 => Gd (gdt d s1) N) : Gs (sAsg fa gdt s) N R := by
  obtain ⟨d, s1, e, s2, e2, k⟩ := h
  exact ⟨.inl ⟨s2, by unfold sAsg; rw [e, Option.bind_some, e2]; rfl, k⟩⟩
theorem s_par (h : Ge (fa s) fun a s1 => Ge (fb s1) fun b s2 => N ((s2.set i (.dat a)).set j (.dat b))) : Gs (sPar i j fa fb s) N R := by
  obtain ⟨a, s1, e1, b, s2, e2, k⟩ := h
  exact ⟨.inl ⟨_, by unfold sPar; rw [e1, Option.bind_some, e2]; rfl, k⟩⟩
/-- a loop by an invariant over what is left -/
theorem s_for {gdt : PyData → Sl → Option Sl} (I : List PyData → Sl → Prop) (h : Ge (ff s) fun ds s1 => I ds s1) (turn : ∀ d r s1, I (d :: r) s1 → ∃ s2, gdt d s1 = some s2 ∧ Gs (f s2) (fun s3 => I r s3) R) (done : ∀ s1, I [] s1 → N s1) : Gs (sFor ff gdt f s) N R := by
  obtain ⟨ds, s1, e, h⟩ := h
  have go : ∀ (ds : List PyData) (s1 : Sl), I ds s1 → Gs (runFor gdt f ds s1) N R := fun ds => by
    induction ds with
    | nil => intro s1 h; exact ⟨.inl ⟨s1, rfl, done s1 h⟩⟩
    | cons d r ih =>
      intro s1 h
      obtain ⟨s2, e2, b⟩ := turn d r s1 h
      obtain ⟨⟨s3, e3, h3⟩ | ⟨d3, s3, e3, h3⟩⟩ := b
      · have q : runFor gdt f (d :: r) s1 = runFor gdt f r s3 := by
          rw [runFor, e2, Option.bind_some, e3, Option.bind_some]
        rw [q]; exact ih s3 h3
      · exact ⟨.inr ⟨d3, s3, by rw [runFor, e2, Option.bind_some, e3, Option.bind_some], h3⟩⟩
  have q : sFor ff gdt f s = runFor gdt f ds s1 := by unfold sFor; rw [e]; rfl
  rw [q]
  exact go ds s1 h
/-- a comprehension by an invariant over what is left and what is made -/
theorem f_lc (I : List PyData → List PyData → Sl → Prop) (h : Ge (ff s) fun ds s1 => isNo s1[j]? = true ∧ ds.length < sizeLine ∧ I ds [] s1)
    (turn : ∀ d r m s1, I (d :: r) m s1 → Ge (t (s1.set j (.dat d))) fun b s2 => notOwn s2[j]? = true ∧ ((b = true ∧ Ge (fa s2) fun x s3 => notOwn s3[j]? = true ∧ I r (m ++ [x]) s3) ∨ (b = false ∧ I r m s2)))
    (done : ∀ m s1, I [] m s1 → QA m (s1.set j .no)) : Ge (fLc ff j t fa s) QA := by
  obtain ⟨ds, s1, e, n, l, h⟩ := h
  have go : ∀ (ds m : List PyData) (s1 : Sl), I ds m s1 → ∃ xs s2, lcRun j t fa ds s1 = some (xs, s2) ∧ QA (m ++ xs) (s2.set j .no) := fun ds => by
    induction ds with
    | nil => intro m s1 h; exact ⟨[], s1, rfl, by rw [List.append_nil]; exact done m s1 h⟩
    | cons d r ih =>
      intro m s1 h
      obtain ⟨b, s2, e2, n2, ⟨rfl, x, s3, e3, n3, h3⟩ | ⟨rfl, h3⟩⟩ := turn d r m s1 h
      · obtain ⟨xs, s4, e4, h4⟩ := ih _ s3 h3
        exact ⟨x :: xs, s4, by rw [lcRun, e2, Option.bind_some]; simp only [n2, if_true, e3, Option.bind_some, n3, e4, Option.map_some], by simpa using h4⟩
      · obtain ⟨xs, s4, e4, h4⟩ := ih _ s2 h3
        exact ⟨xs, s4, by rw [lcRun, e2, Option.bind_some]; simp [n2, e4], h4⟩
  obtain ⟨xs, s2, e2, h2⟩ := go ds [] s1 h
  exact ⟨xs, s2.set j .no, by unfold fLc; rw [e, Option.bind_some, if_pos ⟨n, l⟩, e2]; rfl, h2⟩
/-- a comprehension whose parts change nothing -/
theorem f_lc_pure (T : PyData → Bool) (F : PyData → PyData) (h : Ge (ff s) fun ds s1 => isNo s1[j]? = true ∧ ds.length < sizeLine ∧ (∀ d ∈ ds, Ge (t (s1.set j (.dat d))) (fun b s2 => b = T d ∧ s2 = s1.set j (.dat d)) ∧
      (T d = true → Ge (fa (s1.set j (.dat d))) fun x s2 => x = F d ∧ s2 = s1.set j (.dat d))) ∧ QA ((ds.filter T).map F) s1) : Ge (fLc ff j t fa s) QA := by
  obtain ⟨ds, s1, e, n, l, turn, k⟩ := h
  have hn := isNo_eq n
  have hj : j < s1.length := by
    rcases Nat.lt_or_ge j s1.length with z | z
    · exact z
    · rw [List.getElem?_eq_none z] at hn; cases hn
  have same : s1.set j .no = s1 := by
    refine List.ext_getElem? fun i => ?_
    rw [List.getElem?_set]
    split
    · rename_i q
      subst q
      simp [hj]
      rw [List.getElem?_eq_getElem hj] at hn
      exact (Option.some.inj hn).symm
    · rfl
  refine f_lc (I := fun r m s' => ∃ pre, pre ++ r = ds ∧ m = (pre.filter T).map F ∧ ∀ v, s'.set j v = s1.set j v) ⟨ds, s1, e, n, l, [], rfl, rfl, fun _ => rfl⟩ (fun d r m s' hI => ?_) (fun m s' hI => ?_)
  · obtain ⟨pre, hp, rfl, hs⟩ := hI
    have mem : d ∈ ds := by rw [← hp]; simp
    obtain ⟨t1, t2⟩ := turn d mem
    rw [hs]
    have at_ : (s1.set j (.dat d))[j]? = some (.dat d) := by simp [hj]
    have back : ∀ v, (s1.set j (.dat d)).set j v = s1.set j v := fun v => by rw [List.set_set]
    refine ge_mono t1 fun b s2 q => ?_
    obtain ⟨rfl, rfl⟩ := q
    refine ⟨by rw [at_]; rfl, ?_⟩
    cases hT : T d with
    | true =>
      refine .inl ⟨rfl, ge_mono (t2 hT) fun x s3 q => ?_⟩
      obtain ⟨rfl, rfl⟩ := q
      exact ⟨by rw [at_]; rfl, pre ++ [d], by rw [← hp]; simp, by simp [List.filter_append, hT], back⟩
    | false => exact .inr ⟨rfl, pre ++ [d], by rw [← hp]; simp, by simp [List.filter_append, hT], back⟩
  · obtain ⟨pre, hp, rfl, hs⟩ := hI
    rw [List.append_nil] at hp
    subst hp
    rw [hs, same]
    exact k
/-! ### defs -/
theorem m_fnP {N : List Str} {n : Nat} {b : DS} {ds : List PyData} {q : PyData → Prop} (l : ds.length = n) (h : Gs (b (startS N ds)) (fun _ => q .none) fun d _ => q d) : Gd (fnP N n b ds) q := by
  obtain ⟨⟨s1, e, k⟩ | ⟨d, s1, e, k⟩⟩ := h
  · exact ⟨.none, by unfold fnP; rw [if_pos l, e]; rfl, k⟩
  · exact ⟨d, by unfold fnP; rw [if_pos l, e]; rfl, k⟩
theorem m_fnM {N : List Str} {n : Nat} {b : DS} {pd ds : List PyData} {q : PyData × List PyData → Prop} (l : ds.length + 1 = n)
    (h : Gs (b (startM N pd ds)) (fun s => ∃ pd', potOf s[0]? = some pd' ∧ q (.none, pd')) fun d s => ∃ pd', potOf s[0]? = some pd' ∧ q (d, pd')) : Gd (fnM N n b pd ds) q := by
  obtain ⟨⟨s1, e, pd', e2, k⟩ | ⟨d, s1, e, pd', e2, k⟩⟩ := h
  · exact ⟨_, by unfold fnM; rw [if_pos l, e]; simp only [outM, e2, Option.map_some], k⟩
  · exact ⟨_, by unfold fnM; rw [if_pos l, e]; simp only [outM, e2, Option.map_some], k⟩
theorem m_fnF {N : List Str} {n : Nat} {b : DF} {ds : List PyData} {q : List PyData → Prop} (l : ds.length = n) (h : Ge (b (startS N ds)) fun d _ => q d) : Gd (fnF N n b ds) q := by
  obtain ⟨d, s1, e, k⟩ := h
  exact ⟨d, by unfold fnF; rw [if_pos l, e]; rfl, k⟩
theorem r_seq {q : List PyData → Sl → Prop} (h : Gs (f s) (fun s1 => Ge (ff s1) q) fun _ _ => False) : Ge (rSeq f ff s) q := by
  obtain ⟨⟨s1, e, d, s2, e2, k⟩ | ⟨d, s1, e, k⟩⟩ := h
  · exact ⟨d, s2, by unfold rSeq; rw [e]; exact e2, k⟩
  · exact k.elim
theorem few_and {n : Nat} {p : Prop} (h : n ≤ 1000) (k : p) : n ≤ sizeLine ∧ p := ⟨Nat.le_trans h (by decide), k⟩
/-! ### numbers -/
theorem lg {x : Int} {k : Nat} (hk : 0 < k) (h0 : -(2 ^ k) < x) (h : x < 2 ^ k) : x.natAbs.log2 < k := by
  by_cases z : x.natAbs = 0
  · rw [z]; exact hk
  · refine (Nat.log2_lt z).mpr ?_
    have e : ((2 ^ k : Nat) : Int) = (2 : Int) ^ k := by simp
    omega
theorem two_pos (k : Nat) : (0 : Int) < 2 ^ k := Int.pow_pos (by decide)
theorem n_pow (k : Nat) {a : Int} {b : Nat} (ha : 0 ≤ a) (hl : a < 2 ^ k) (hk : 0 < k) (hb : k * b ≤ 2 ^ 20) (h : 0 ≤ a ^ b → D (.int (a ^ b))) : Gd (gPow (.int a) (.int b)) D := by
  have p := two_pos k
  have l : a.natAbs.log2 < k := lg hk (by omega) hl
  have c : (0 : Int) ≤ (b : Int) ∧ ((a.natAbs.log2 + 1 : Nat) : Int) * b ≤ 2 ^ 27 := by
    refine ⟨by omega, ?_⟩
    have e : (a.natAbs.log2 + 1) * b ≤ k * b := Nat.mul_le_mul_right _ l
    have e2 : (((a.natAbs.log2 + 1) * b : Nat) : Int) ≤ 2 ^ 20 := by
      have : ((2 ^ 20 : Nat) : Int) = 2 ^ 20 := by decide
      omega
    rw [Int.natCast_mul] at e2
    exact Int.le_trans e2 (by decide)
  refine gd (a := .int (a ^ b)) ?_ (h (Int.pow_nonneg ha))
  unfold gPow gInt
  simp only [c, and_self, if_true, Option.map_some, Int.toNat_natCast]
theorem n_add {a b : Int} (h : D (.int (a + b))) : Gd (gAdd (.int a) (.int b)) D := ⟨_, rfl, h⟩
theorem n_sub {a b : Int} (h : D (.int (a - b))) : Gd (gSub (.int a) (.int b)) D := ⟨_, rfl, h⟩
theorem n_mod {a b : Int} (l : 0 < b) (h : 0 ≤ a % b → a % b < b → D (.int (a % b))) : Gd (gMod (.int a) (.int b)) D := ⟨_, by unfold gMod gInt; simp only [l, if_true, Option.map_some], h (Int.emod_nonneg _ (by omega)) (Int.emod_lt_of_pos _ l)⟩
theorem n_div {a b : Int} (l : 0 < b) (u : b < 2 ^ 100) (h : D (.int (a / b))) : Gd (gDiv (.int a) (.int b)) D := by
  have c : 0 < b ∧ b.natAbs.log2 < 9000 := ⟨l, Nat.lt_of_lt_of_le (lg (by decide) (by have := two_pos 100; omega) u) (by decide)⟩
  exact ⟨_, by unfold gDiv gInt; simp only [c, and_self, if_true, Option.map_some], h⟩
theorem n_mul (k : Nat) {a b : Int} (ha : -(2 ^ k) < a) (ha' : a < 2 ^ k) (hb : -(2 ^ k) < b) (hb' : b < 2 ^ k) (hk : 0 < k) (few : k ≤ 400000) (h : D (.int (a * b))) : Gd (gMul (.int a) (.int b)) D := by
  have l1 := lg hk ha ha'
  have l2 := lg hk hb hb'
  have c : a.natAbs.log2 + b.natAbs.log2 < 1000000 := by omega
  exact ⟨_, by unfold gMul gInt; simp only [c, if_true, Option.map_some], h⟩
theorem n_gt {a b : Int} (h : D (.bool (decide (b < a)))) : Gd (gGt (.int a) (.int b)) D := ⟨_, rfl, h⟩
theorem n_ge {a b : Int} (h : D (.bool (decide (b ≤ a)))) : Gd (gGe (.int a) (.int b)) D := ⟨_, rfl, h⟩
theorem n_lt {a b : Int} (h : D (.bool (decide (a < b)))) : Gd (gLt (.int a) (.int b)) D := ⟨_, rfl, h⟩
theorem n_le {a b : Int} (h : D (.bool (decide (a ≤ b)))) : Gd (gLe (.int a) (.int b)) D := ⟨_, rfl, h⟩
end
end Dl

/-! ### while, a name forgotten, gcd, // by any divisor, the head by any check -/
namespace Dl
open PySem PySem.Spec PyProof.Rows L2
/-- while, n turns at most -/
def sWhile (t : DT) (b : DS) : Nat → DS
  | 0 => fun _ => none
  | n + 1 => fun s => (t s).bind fun p => if p.1 = true then (b p.2).bind fun fl => match fl with
      | .nx s' => sWhile t b n s'
      | .ct s' => sWhile t b n s'
      | .bk s' => some (.nx s')
      | .rt d s' => some (.rt d s')
    else some (.nx p.2)
/-- more turns than any loop here has -/
def bigF : Nat := 2 ^ 1000
/-- a name of which nothing is known from here on -/
def sFgt (j : Nat) : DS := fun s => if notOwn s[j]? = true then some (.nx (s.set j .no)) else none
section
variable {X : Cx} {Z : Par} {a b e : Expr} {es : List Expr} {pos : Pos} {fa fb fc : DE} {ff : DF} {ga : DA} {st : Stmt} {sts : List Stmt} {f g : DS} {t : DT}
theorem lift_while {K : PySem.W.Frag} {n : Nat} {D : Ends} {σ : L2.St} {H : Hp} (h : lfS K Z (sWhile t f n) D σ H) : tWhile (lfT K Z t) (lfS K Z f) D σ H := by
  obtain ⟨M, s, fl, rl, hf, k⟩ := h
  refine ⟨fun m σ' H' => ∃ M' s', Kq Z M H M' H' ∧ Rel K Z M' σ' H' s' ∧ sWhile t f m s' = some fl, ⟨n, M, s, Kq.refl _ _ _, rl, hf⟩, ?_⟩
  rintro m σ' H' ⟨M', s', k2, r2, h3⟩
  cases m with
  | zero => cases h3
  | succ m =>
    unfold sWhile at h3
    simp only [Option.bind_eq_some_iff] at h3
    obtain ⟨⟨b1, s1⟩, e1, h4⟩ := h3
    dsimp only at h4
    refine ⟨M', s', b1, s1, r2, e1, fun H1 k1 r1 => ?_⟩
    cases b1 with
    | true =>
      rw [if_pos rfl]
      rw [if_pos rfl] at h4
      simp only [Option.bind_eq_some_iff] at h4
      obtain ⟨fl1, e2, h5⟩ := h4
      refine ⟨fun σ3 H3 => ∃ M3 s3, Kq Z M H M3 H3 ∧ Rel K Z M3 σ3 H3 s3 ∧ sWhile t f m s3 = some fl, fun σ3 H3 q => ⟨m, Nat.lt_succ_self _, q⟩, ?_⟩
      refine ⟨M', s1, fl1, r1, e2, ?_⟩
      have kk : Kq Z M H M' H1 := k2.trans k1
      cases fl1 with
      | nx s4 => exact fun M4 σ4 H4 k4 r4 => ⟨M4, s4, kk.trans k4, r4, h5⟩
      | ct s4 => exact fun M4 σ4 H4 k4 r4 => ⟨M4, s4, kk.trans k4, r4, h5⟩
      | bk s4 => cases h5; exact fun M4 σ4 H4 k4 r4 => k M4 σ4 H4 (kk.trans k4) r4
      | rt d4 s4 => cases h5; exact fun M4 σ4 H4 v4 k4 r4 t4 => k M4 σ4 H4 v4 (kk.trans k4) r4 t4
    | false =>
      rw [if_neg Bool.false_ne_true]
      rw [if_neg Bool.false_ne_true] at h4
      cases h4
      exact k M' σ' H1 (k2.trans k1) r1
theorem swhile (n : Nat) {c : Expr} {body : List Stmt} (hp : PassesOwn (model X.prog X.w) X.A X.env X.xe) (hc : PT X c (lfT X.K Z t)) (hb : PSs X body (lfS X.K Z f)) : PS X (.While c body [] pos) (lfS X.K Z (sWhile t f n)) :=
  PSimp (ps_while hp hc hb) fun _ _ _ h => lift_while h
theorem sfgt {j : Nat} (h : PSs X sts (lfS X.K Z g)) : PSs X sts (lfS X.K Z (sSeq (sFgt j) g)) := PSsimp h fun D σ H h => by
  obtain ⟨M, s, fl, rl, h1, k⟩ := h
  unfold sSeq sFgt at h1
  simp only [Option.bind_eq_some_iff] at h1
  obtain ⟨fl1, h1, h2⟩ := h1
  split at h1
  · rename_i hn
    cases h1
    have q := rl.sl.forget (x := σ[j]?.join) j (notOwn_ne hn)
    have e : σ.set j (σ[j]?.join) = σ := by
      apply List.ext_getElem?
      intro i'
      by_cases e : i' = j
      · subst e
        by_cases hl : i' < σ.length
        · rw [List.getElem?_set_self hl, List.getElem?_eq_getElem hl]; rfl
        · rw [List.getElem?_eq_none (by simpa using hl), List.getElem?_eq_none (by simpa using hl)]
      · rw [List.getElem?_set_ne (Ne.symm e)]
    rw [e] at q
    exact ⟨M, _, fl, rl.withSl q, h2, k⟩
  · cases h1

/-! gcd -/
def gGcd : List PyData → Option PyData
  | [.int a, .int b] => some (.int ((Nat.gcd a.natAbs b.natAbs : Nat) : Int))
  | _ => none
theorem ok_gcd {K : PySem.W.Frag} : CallOk K rGcd gGcd := fun mu H xs ds d Q hm t e k => by
  unfold gGcd at e
  split at e
  · obtain ⟨x, y, rfl, t1, u⟩ := two_of t
    cases e
    exact ⟨_, _, by rw [t1.inti, u.inti], k _ H (fun _ _ z => z) (.int _)⟩
  · cases e
/-- a call of a built-in that a name of the module holds -/
theorem dcbf {x : Str} {p : Pos} {id : String} {r : List V → Hp → VK → Prop} {g : List PyData → Option PyData} (hc : CallR X (.builtin id) r) (ok : CallOk X.K r g) (hg : Gl X x) (hm : X.mg x = some (.builtin id)) (ha : PA X (e :: es) (lfA X.K Z ga))
    (hdb : (x == ("__debug__" : Str)) = false := by decide) (he : starEach (e :: es) X.env = (false, eval e X.env) :: starEach es X.env := by rfl) (hpl : (backTo pos (starEach es X.env)).any (·.1) = false := by rfl) : PE X (.Call (.Name x p) (e :: es) [] pos) (lft X.K Z (dB g ga)) :=
  PEimp (pe_callBfun hc hg hm ha hdb he hpl) fun _ _ _ h => lift_cb ok h

/-! // by any divisor but 0 -/
def CDivA (_ j : Int) : Prop := j ≠ 0 ∧ j.natAbs.log2 < 9000
theorem op_fdivA : OpR X (binaryOp .FloorDiv) (rI CDivA fun i j => .int (i.fdiv j)) := opI fun _ _ _ _ _ _ _ hc q => floordiv_int hc.1 q (.inl (PyProof.noPylong_of_log2 hc.2))
def gDivA : PyData → PyData → Option PyData := gInt fun a b => if b ≠ 0 ∧ b.natAbs.log2 < 9000 then some (a.fdiv b) else none
theorem ok_divA {K : PySem.W.Frag} : OpOk K (rI CDivA fun i j => .int (i.fdiv j)) gDivA := okI fun a b c h => by
  split at h
  · cases h; exact ⟨by assumption, rfl⟩
  · cases h
end
section
variable {N : Sl → Prop} {R : PyData → Sl → Prop} {s : Sl} {t : DT} {f g : DS} {D : PyData → Prop} {j : Nat}
theorem s_fgt (h : notOwn s[j]? = true) (k : N (s.set j .no)) : Gs (sFgt j s) N R := ⟨.inl ⟨_, by unfold sFgt; rw [if_pos h], k⟩⟩
/-- while by an invariant with its measure -/
theorem s_while {n : Nat} (I : Nat → Sl → Prop) (h : ∃ m, m < n ∧ I m s) (turn : ∀ m s, I m s → Ge (t s) fun b s1 => (b = true ∧ Gs (f s1) (fun s2 => ∃ m', m' < m ∧ I m' s2) R) ∨ (b = false ∧ N s1)) : Gs (sWhile t f n s) N R := by
  obtain ⟨m, hm, h⟩ := h
  induction n generalizing m s with
  | zero => omega
  | succ n ih =>
    obtain ⟨b, s1, e, ⟨rfl, q⟩ | ⟨rfl, q⟩⟩ := turn m s h
    · obtain ⟨⟨s2, e2, m', l, q⟩ | ⟨d, s2, e2, q⟩⟩ := q
      · have w : sWhile t f (n + 1) s = sWhile t f n s2 := by
          simp only [sWhile, e, Option.bind_some, if_true, e2]
        rw [w]
        exact ih m' (by omega) q
      · exact ⟨.inr ⟨d, s2, by simp only [sWhile, e, Option.bind_some, if_true, e2], q⟩⟩
    · exact ⟨.inl ⟨s1, by simp [sWhile, e], q⟩⟩
theorem n_divA {a b : Int} (l : 0 < b) (u : b < 2 ^ 200) (h : D (.int (a / b))) : Gd (gDivA (.int a) (.int b)) D := by
  have c : b ≠ 0 ∧ b.natAbs.log2 < 9000 := ⟨by omega, Nat.lt_of_lt_of_le (lg (by decide) (by have := two_pos 200; omega) u) (by decide)⟩
  refine ⟨_, ?_, h⟩
  unfold gDivA gInt
  simp only [c, and_self, ne_eq, not_false_eq_true, if_true, Option.map_some]
  rw [Int.fdiv_eq_ediv_of_nonneg a (by omega)]
theorem n_divN {a b : Int} (l : b ≠ 0) (u : b.natAbs < 2 ^ 200) (h : D (.int (a.fdiv b))) : Gd (gDivA (.int a) (.int b)) D := by
  have c : b ≠ 0 ∧ b.natAbs.log2 < 9000 := ⟨l, by
    by_cases z : b.natAbs = 0
    · rw [z]; decide
    · exact Nat.lt_of_lt_of_le ((Nat.log2_lt z).mpr u) (by decide)⟩
  refine ⟨_, ?_, h⟩
  unfold gDivA gInt
  simp only [c, and_self, ne_eq, not_false_eq_true, if_true, Option.map_some]
end

/-! ### the head by any check of it -/
def bnB (K : PySem.W.Frag) (c : Str × String) : Bool := He.eqO (PySem.W.nsIn K mainGlobals c.1) (some (some (.builtin c.2)))
def obsC (n : Nat) (fa : List He.Fa) (fn : List He.DefD) (ck : PySem.W.Frag → Bool) (g : Addr → Option Obj) : Bool × He.AlD :=
  (ck (He.frG g (He.asD g n)), He.obsDG n fa fn g)
def hookC (n : Nat) (fa : List He.Fa) (fn : List He.DefD) (ck : PySem.W.Frag → Bool) : PySem.W.Hook where
  α := Bool × He.AlD
  obs := fun s => obsC n fa fn ck s.heap.get?
  val := fun _ => (true, He.valD fn)
  says := fun _ h => ∃ K : PySem.W.Frag, K.In h ∧ He.SaysD fa fn K ∧ ck K = true
  of := fun _ _ e => ⟨_, He.frG_in, congrArg Prod.snd e, congrArg Prod.fst e⟩
  keeps := fun _ _ _ ⟨K, X, c⟩ k => ⟨K, PySem.W.Frag.In.keeps X k, c⟩
theorem obsC_eq {n : Nat} {fa : List He.Fa} {fn : List He.DefD} {ck : PySem.W.Frag → Bool} {g : Addr → Option Obj} {s : Shared} (h : ∀ a, g a = s.heap.get? a) : obsC n fa fn ck g = (hookC n fa fn ck).obs s := by
  obtain rfl : g = s.heap.get? := funext h
  rfl
section
variable {K : PySem.W.Frag} {h : Heap} {mg : Str → Option Value} {fa : List He.Fa} {fn : List He.DefD} {bs : List (Str × String)}
theorem bn_of (X : K.In h) (G : h.Ns mainGlobals mg) (c : bs.all (bnB K) = true) (i : Nat) {x : Str} {d : String} (at_ : bs[i]? = some (x, d) := by rfl) : mg x = some (.builtin d) :=
  PySem.W.mg_of X G (He.eqO_ok (List.all_eq_true.mp c _ (List.mem_of_getElem? at_)))
end
/-- the law walked: what is asked of the program is that its meaning at each script is True -/
theorem walk_dataC {l : PySem.W.OpenLaw} {n k : Nat} {q : Program} {loose : List Str} {XP : (Str → Option Value) → Heap → Prop} {d : DefRec} {fa : List He.Fa} {fn : List He.DefD} {ck : PySem.W.Frag → Bool} {m : Nat} {x p : Str} {st : Stmt} {N : List Str} {b : DS}
    (most : l.most = some n) (few : n ≤ sizeLine) (hdf : d.params.defaults = []) (name : d.name = x) (alone : importsNone q = true) (room : Room (k + 1) callerA) (S : FnScope N [p] (defScope st))
    (F : ∀ (w : World) (mg : Str → Option Value) (h : Heap) (K : PySem.W.Frag), K.In h → h.Ns mainGlobals mg → He.SaysD fa fn K → ck K = true → ∃ (f : Addr) (fd : FuncData), mg x = some (.ref f) ∧ Fun K x x st f fd ∧ (∀ (s : Shared) (u : Value), BindsTo s fd ⟨[u], []⟩ [(p, u)]) ∧
      ∀ (base : Heap) (cdv : Value) (s : Shared) (H : Hp) (Z : Par), Mod K mg base → Room k (callerA.deeper (envOfC x (defScope st) s.heap.objs.size f cdv)) → CG (cxOf CX0 l.prog w K mg base N x (defScope st) f cdv callerA [] s H E0).nox →
        PSs (cxOf CX0 l.prog w K mg base N x (defScope st) f cdv callerA [] s H E0).nox (defBody st) (lfS K Z b))
    (T : ∀ ns : List Int, ns.length ≤ n → fnP N 1 b [.dict [(.none, .list (ns.map .int))]] = some (.bool true)) :
    PySem.W.WalkO q loose XP (hookC m fa fn ck).says l.row.toRowW d [] (fun f vs => PySem.call f vs) := by
  refine Att.attach_call most hdf fun w s₀ s₁ mg mb f o pm cd doc a vs ns G Y _ _ _ hmg hobj hints hlen hg => ?_
  obtain ⟨K, X, c1, c2⟩ := Y
  obtain ⟨f', fd, e, Fn, bt, body⟩ := F w mg _ K X G.T.g c1 c2
  rw [name] at hmg
  cases e.symm.trans hmg
  obtain ⟨mm, sees, _⟩ := (G.T.seer alone).mods
  exact law_here X G.T.g G.T.b G.T.builtins G.T.nolimit ⟨mm, sees⟩ hg hobj hints (Nat.le_trans hlen few) room Fn S bt body (T ns hlen)
end Dl

/-! ### exceptions: what a body tells, or which class of exception leaves it -/
namespace Dl
open PySem PySem.Spec PyProof.Rows L2
inductive Rx (α : Type) where
  | ok (a : α) | ex (c : Str)
/-- .. with the names' state -/
inductive Ry (α : Type) where
  | ok (a : α) | ex (c : Str) (s : Sl)
abbrev DX := Sl → Option (Ry (PyData × Sl))
abbrev DTX := Sl → Option (Ry (Bool × Sl))
abbrev DAX := Sl → Option (Ry (List PyData × Sl))
inductive Fx where
  | fl (f : Fl) | ex (c : Str) (s : Sl)
abbrev DSx := Sl → Option Fx
/-- an exception of the class of that name is let out, the names being so -/
def ExAt (K : PySem.W.Frag) (mg : Str → Option Value) (Z : Par) (M : List Addr) (H : Hp) (W : WX) (c : Str) (s : Sl) : Prop :=
  ∀ (C : Addr) (M' : List Addr) (σ' : L2.St) (H' : Hp), mg c = some (.ref C) → Kq Z M H M' H' → Rel K Z M' σ' H' s → W (.ref C) none σ' H'
theorem ExAt.mono {K : PySem.W.Frag} {mg : Str → Option Value} {Z : Par} {M M1 : List Addr} {H H1 : Hp} {W : WX} {c : Str} {s : Sl} (k : Kq Z M H M1 H1) (h : ExAt K mg Z M H W c s) : ExAt K mg Z M1 H1 W c s := fun C M' σ' H' hm k1 r => h C M' σ' H' hm (k.trans k1) r
/-- .. out of an expression: the names are as they were -/
def ExE (K : PySem.W.Frag) (mg : Str → Option Value) (Z : Par) (M : List Addr) (σ : L2.St) (H : Hp) (W : WX) (c : Str) (s : Sl) : Prop :=
  ∀ (C : Addr) (H' : Hp), mg c = some (.ref C) → Kq Z M H M H' → Rel K Z M σ H' s → W (.ref C) none σ H'
theorem ExE.mono {K : PySem.W.Frag} {mg : Str → Option Value} {Z : Par} {M : List Addr} {σ : L2.St} {H H1 : Hp} {W : WX} {c : Str} {s : Sl} (k : Kq Z M H M H1) (h : ExE K mg Z M σ H W c s) : ExE K mg Z M σ H1 W c s := fun C H' hm k1 r => h C H' hm (k.trans k1) r
theorem ExAt.toE {K : PySem.W.Frag} {mg : Str → Option Value} {Z : Par} {M : List Addr} {σ : L2.St} {H : Hp} {W : WX} {c : Str} {s : Sl} (h : ExAt K mg Z M H W c s) : ExE K mg Z M σ H W c s := fun C H' hm k r => h C M σ H' hm k r
def lftx (K : PySem.W.Frag) (mg : Str → Option Value) (Z : Par) (W : WX) (f : DX) : TE := fun σ H Q => ∃ M s r, Rel K Z M σ H s ∧ f s = some r ∧ (match r with
  | .ok p => ∀ v H', Kq Z M H M H' → Rel K Z M σ H' p.2 → Dt K (Mu Z M) H' v p.1 → Q v H'
  | .ex c s' => ExE K mg Z M σ H W c s')
def lfTx (K : PySem.W.Frag) (mg : Str → Option Value) (Z : Par) (W : WX) (f : DTX) : TT := fun σ H Q => ∃ M s r, Rel K Z M σ H s ∧ f s = some r ∧ (match r with
  | .ok p => ∀ H', Kq Z M H M H' → Rel K Z M σ H' p.2 → Q p.1 H'
  | .ex c s' => ExE K mg Z M σ H W c s')
def lfAx (K : PySem.W.Frag) (mg : Str → Option Value) (Z : Par) (W : WX) (f : DAX) : TA := fun σ H Q => ∃ M s r, Rel K Z M σ H s ∧ f s = some r ∧ (match r with
  | .ok p => ∀ vs H', Kq Z M H M H' → Rel K Z M σ H' p.2 → DtAll K (Mu Z M) H' vs p.1 → Q vs H'
  | .ex c s' => ExE K mg Z M σ H W c s')
def FxOk (K : PySem.W.Frag) (mg : Str → Option Value) (Z : Par) (W : WX) (M : List Addr) (H : Hp) (D : Ends) : Fx → Prop
  | .fl fl => FlOk K Z M H D fl
  | .ex c s => ExAt K mg Z M H W c s
def lfSx (K : PySem.W.Frag) (mg : Str → Option Value) (Z : Par) (W : WX) (f : DSx) : TS := fun D σ H => ∃ M s r, Rel K Z M σ H s ∧ f s = some r ∧ FxOk K mg Z W M H D r
theorem fxOk_mono {K : PySem.W.Frag} {mg : Str → Option Value} {Z : Par} {W : WX} {m0 m1 : List Addr} {H0 H1 : Hp} {D : Ends} (k : Kq Z m0 H0 m1 H1) : ∀ {r : Fx}, FxOk K mg Z W m0 H0 D r → FxOk K mg Z W m1 H1 D r
  | .fl _, h => FlOk.mono k h
  | .ex _ _, h => ExAt.mono k h
def spX (K : PySem.W.Frag) (mg : Str → Option Value) (m : List PyData → Option (Rx PyData)) : Sp := fun vs H Q E => ∃ mu ds r, (∀ a, mu a → ∃ o, H a = some o) ∧ DtAll K mu H vs ds ∧ m ds = some r ∧ (match r with
  | .ok d => ∀ v H', (∀ a o, H a = some o → H' a = some o) → Dt K mu H' v d → Q v H'
  | .ex c => ∀ (C : Addr) (H' : Hp), mg c = some (.ref C) → (∀ a o, H a = some o → H' a = some o) → E (.ref C) none H')

/-! #### expressions -/
def xUp (f : DE) : DX := fun s => (f s).map .ok
def xCall (m : List PyData → Option (Rx PyData)) (g : DA) : DX := fun s => (g s).bind fun p => (m p.1).map fun r => match r with
  | .ok d => .ok (d, p.2)
  | .ex c => .ex c p.2
def xACons (f : DX) (g : DAX) : DAX := fun s => (f s).bind fun r => match r with
  | .ex c s' => some (.ex c s')
  | .ok p => (g p.2).map fun q => match q with
    | .ex c s' => .ex c s'
    | .ok q => .ok (p.1 :: q.1, q.2)
def xAUp (f : DA) : DAX := fun s => (f s).map .ok
def xTup (g : DAX) : DX := fun s => (g s).bind fun r => match r with
  | .ex c s' => some (.ex c s')
  | .ok p => if p.1.length ≤ sizeLine then some (.ok (.tuple p.1, p.2)) else none
def xTst (f : DX) : DTX := fun s => (f s).bind fun r => match r with
  | .ex c s' => some (.ex c s')
  | .ok (.bool b, s') => some (.ok (b, s'))
  | .ok _ => none
def xNotT (f : DTX) : DTX := fun s => (f s).map fun r => match r with
  | .ex c s' => .ex c s'
  | .ok p => .ok (!p.1, p.2)
/-- the call of a def that may raise, where it doesn't -/
def okOf (m : List PyData → Option (Rx PyData)) : List PyData → Option PyData := fun ds => match m ds with
  | some (.ok d) => some d
  | _ => none
section
variable {X : Cx} {Z : Par} {W : WX} {a b e : Expr} {es : List Expr} {pos : Pos} {fa fb : DE} {xa xb : DX} {ga : DA} {gx : DAX} {tx : DTX}
theorem xup (h : PE X e (lft X.K Z fa)) : PE X e (lftx X.K X.mg Z W (xUp fa)) := PEimp h fun σ H Q h => by
  obtain ⟨M, s, r, rl, hf, k⟩ := h
  unfold xUp at hf
  simp only [Option.map_eq_some_iff] at hf
  obtain ⟨⟨d, s1⟩, h1, rfl⟩ := hf
  exact ⟨M, s, d, s1, rl, h1, k⟩
theorem xaup (h : PA X es (lfA X.K Z ga)) : PA X es (lfAx X.K X.mg Z W (xAUp ga)) := PAimp h fun σ H Q h => by
  obtain ⟨M, s, r, rl, hf, k⟩ := h
  unfold xAUp at hf
  simp only [Option.map_eq_some_iff] at hf
  obtain ⟨⟨d, s1⟩, h1, rfl⟩ := hf
  exact ⟨M, s, d, s1, rl, h1, k⟩
theorem lift_xcall {K : PySem.W.Frag} {mg : Str → Option Value} {m : List PyData → Option (Rx PyData)} {σ : L2.St} {H : Hp} {Q : VK} (h : lftx K mg Z W (xCall m ga) σ H Q) : tCallS (spX K mg m) (WE W) (lfA K Z ga) σ H Q := by
  obtain ⟨M, s, r, rl, hf, k⟩ := h
  unfold xCall at hf
  simp only [Option.bind_eq_some_iff, Option.map_eq_some_iff] at hf
  obtain ⟨⟨ds, s1⟩, h1, r1, h2, h3⟩ := hf
  refine ⟨M, s, ds, _, rl, h1, fun vs H1 k1 rl1 t1 => ?_⟩
  show spX K mg m vs H1 Q (WE W σ)
  refine ⟨Mu Z M, ds, _, rl1.muT, t1, h2, ?_⟩
  cases r1 with
  | ok d =>
    cases h3
    exact fun v H2 g2 t2 => k v H2 (k1.trans (kq_grow g2)) (rl1.grow g2) t2
  | ex c =>
    cases h3
    exact fun C H' hm g => k C H' hm (k1.trans (kq_grow g)) (rl1.grow g)
def CalX (P : Program) (w : World) (K : PySem.W.Frag) (mg : Str → Option Value) (base : Heap) (k : Nat) (x : Str) (ps : List Str) (sp : Sp) : Prop := ∃ (f : Addr) (fd : FuncData), FnOk P w K mg base (L2.CX P w) k f fd ps sp ∧ mg x = some (.ref f) ∧ PySem.W.keepIn K (.ref f) = true ∧ Binds K fd ps []
theorem CalX.mono {P : Program} {w : World} {K : PySem.W.Frag} {mg : Str → Option Value} {base : Heap} {x : Str} {ps : List Str} {j k : Nat} {sp : Sp} (c : CalX P w K mg base j x ps sp) (h : j ≤ k) : CalX P w K mg base k x ps sp := by
  obtain ⟨f, fd, F, r⟩ := c
  exact ⟨f, fd, F.mono h, r⟩
theorem xcl {m : List PyData → Option (Rx PyData)} {j k : Nat} {x : Str} {ps : List Str} {p : Pos} (tk : Takes X W) (c : CalX X.prog X.w X.K X.mg X.base j x ps (spX X.K X.mg m)) (hr : Room k X.A) (hj : j ≤ k) (hg : Gl X x) (ha : PA X (e :: es) (lfA X.K Z ga))
    (hdb : (x == ("__debug__" : Str)) = false := by decide) (he : starEach (e :: es) X.env = (false, eval e X.env) :: starEach es X.env := by rfl) (hpl : (backTo pos (starEach es X.env)).any (·.1) = false := by rfl) :
    PE X (.Call (.Name x p) (e :: es) [] pos) (lftx X.K X.mg Z W (xCall m ga)) := by
  obtain ⟨f, fd, F, hm, hk, hb⟩ := c
  exact PEimp (pe_callS F (hr.mono hj) hg hm hk hb (fun σ => passAt tk σ) ha hdb he hpl) fun _ _ _ h => lift_xcall h
/-- called where it doesn't raise -/
theorem dclX {m : List PyData → Option (Rx PyData)} {j k : Nat} {x : Str} {ps : List Str} {p : Pos} (c : CalX X.prog X.w X.K X.mg X.base j x ps (spX X.K X.mg m)) (hr : Room k X.A) (hj : j ≤ k) (hg : Gl X x) (ha : PA X (e :: es) (lfA X.K Z ga))
    (hdb : (x == ("__debug__" : Str)) = false := by decide) (he : starEach (e :: es) X.env = (false, eval e X.env) :: starEach es X.env := by rfl) (hpl : (backTo pos (starEach es X.env)).any (·.1) = false := by rfl) :
    PE X (.Call (.Name x p) (e :: es) [] pos) (lft X.K Z (dCall (okOf m) ga)) := by
  obtain ⟨f, fd, F, hm, hk, hb⟩ := c
  refine PEimp (pe_call F (hr.mono hj) hg hm hk hb .nil (passL) ha hdb he hpl) fun σ H Q h => ?_
  obtain ⟨M, s, d, s', rl, hf, k⟩ := h
  unfold dCall okOf at hf
  simp only [Option.bind_eq_some_iff, Option.map_eq_some_iff] at hf
  obtain ⟨⟨ds, s1⟩, h1, d1, h2, h3⟩ := hf
  cases h3
  split at h2
  · rename_i d2 hm2
    cases h2
    refine ⟨M, s, ds, _, rl, h1, fun vs H1 k1 rl1 t1 => ?_⟩
    show spX X.K X.mg m (vs ++ []) H1 Q E0
    rw [List.append_nil]
    exact ⟨Mu Z M, ds, _, rl1.muT, t1, hm2, fun v H2 g2 t2 => k v H2 (k1.trans (kq_grow g2)) (rl1.grow g2) t2⟩
  · cases h2
theorem xac (ha : PE X e (lftx X.K X.mg Z W xa)) (hb : PA X es (lfAx X.K X.mg Z W gx)) (hs : starEach (e :: es) X.env = (false, eval e X.env) :: starEach es X.env := by rfl) : PA X (e :: es) (lfAx X.K X.mg Z W (xACons xa gx)) := PAimp (pa_cons ha hb hs) fun σ H Q h => by
  obtain ⟨M, s, r, rl, hf, k⟩ := h
  unfold xACons at hf
  simp only [Option.bind_eq_some_iff] at hf
  obtain ⟨r1, h1, h2⟩ := hf
  refine ⟨M, s, r1, rl, h1, ?_⟩
  cases r1 with
  | ex c s' => cases h2; exact k
  | ok p =>
    simp only [Option.map_eq_some_iff] at h2
    obtain ⟨r2, h2, h3⟩ := h2
    refine fun v H1 k1 rl1 t1 => ⟨M, p.2, r2, rl1, h2, ?_⟩
    cases r2 with
    | ex c s' => cases h3; exact ExE.mono k1 k
    | ok q => cases h3; exact fun vs H2 k2 rl2 t2 => k _ H2 (k1.trans k2) rl2 (.cons (t1.mono k2.kp) t2)
theorem xtup {x1} (h : PA X es (lfAx X.K X.mg Z W gx)) : PE X (.Tuple es x1 pos) (lftx X.K X.mg Z W (xTup gx)) := PEimp (pe_tup h) fun σ H Q h => by
  obtain ⟨M, s, r, rl, hf, k⟩ := h
  unfold xTup at hf
  simp only [Option.bind_eq_some_iff] at hf
  obtain ⟨r1, h1, h2⟩ := hf
  refine ⟨M, s, r1, rl, h1, ?_⟩
  cases r1 with
  | ex c s' => cases h2; exact k
  | ok p =>
    dsimp only at h2
    split at h2
    · rename_i hz
      cases h2
      exact fun vs H1 k1 rl1 t1 => ⟨by rw [t1.len]; exact hz, fun p hp => k _ _ (k1.trans (kq_grow (grow_new hp))) (rl1.grow (grow_new hp)) (dt_newT rl1.muT hp t1)⟩
    · cases h2
theorem xt (h : PE X e (lftx X.K X.mg Z W xa)) (he : ∀ whole, isTrue e X.env whole = (do let v ← whole; standAt e.pos; holding [v] (truthy v)) := by intro _; rfl) : PT X e (lfTx X.K X.mg Z W (xTst xa)) := PTimp (pt_val h he) fun σ H Q h => by
  obtain ⟨M, s, r, rl, hf, k⟩ := h
  unfold xTst at hf
  simp only [Option.bind_eq_some_iff] at hf
  obtain ⟨r1, h1, h2⟩ := hf
  refine ⟨M, s, r1, rl, h1, ?_⟩
  split at h2
  · cases h2; exact k
  · cases h2; exact fun v H1 k1 rl1 t1 => ⟨_, t1.bool, k H1 k1 rl1⟩
  · cases h2
theorem xtnot (h : PT X e (lfTx X.K X.mg Z W tx)) : PT X (.UnaryOp .Not e pos) (lfTx X.K X.mg Z W (xNotT tx)) := PTimp (pt_not h) fun σ H Q h => by
  obtain ⟨M, s, r, rl, hf, k⟩ := h
  unfold xNotT at hf
  simp only [Option.map_eq_some_iff] at hf
  obtain ⟨r1, h1, h2⟩ := hf
  refine ⟨M, s, r1, rl, h1, ?_⟩
  cases r1 with
  | ex c s' => cases h2; exact k
  | ok p => cases h2; exact fun H1 k1 rl1 => k H1 k1 rl1
end

/-! #### statements -/
def xsUp (f : DS) : DSx := fun s => (f s).map .fl
def xsSeq (f g : DSx) : DSx := fun s => (f s).bind fun r => match r with
  | .fl (.nx s') => g s'
  | r => some r
def xsIf (t : DT) (f g : DSx) : DSx := fun s => (t s).bind fun p => if p.1 = true then f p.2 else g p.2
def xsIfX (t : DTX) (f g : DSx) : DSx := fun s => (t s).bind fun r => match r with
  | .ex c s' => some (.ex c s')
  | .ok p => if p.1 = true then f p.2 else g p.2
def xsRet (f : DX) : DSx := fun s => (f s).map fun r => match r with
  | .ex c s' => .ex c s'
  | .ok p => .fl (.rt p.1 p.2)
def xsDrop (f : DX) : DSx := fun s => (f s).map fun r => match r with
  | .ex c s' => .ex c s'
  | .ok p => .fl (.nx p.2)
def xsSet (i : Nat) (f : DX) : DSx := fun s => (f s).map fun r => match r with
  | .ex c s' => .ex c s'
  | .ok p => .fl (.nx (p.2.set i (.dat p.1)))
def xsAsg (f : DX) (gd : PyData → Sl → Option Sl) : DSx := fun s => (f s).bind fun r => match r with
  | .ex c s' => some (.ex c s')
  | .ok p => (gd p.1 p.2).map fun s' => .fl (.nx s')
def xsRaise (c : Str) : DSx := fun s => some (.ex c s)
/-- an own class of exceptions, made with a text -/
structure ExcK (K : PySem.W.Frag) (mg : Str → Option Value) (c : Str) : Prop where
  at_ : ∃ C : Addr, mg c = some (.ref C) ∧ PySem.W.excIn K C [.type "ValueError", .type "Exception", .type "BaseException", .type "object"] "ValueError.__new__" = true ∧ PySem.W.keepIn K (.ref C) = true ∧ PySem.W.subIn K (.ref C) (.type "BaseException") = some true ∧ PySem.W.typeIn K (.ref C) = some (.type "type")
section
variable {X : Cx} {Z : Par} {W : WX} {a b e : Expr} {es : List Expr} {pos : Pos} {fa fb : DE} {xa xb : DX} {ga : DA} {gx : DAX} {tx : DTX} {t : DT} {st : Stmt} {sts : List Stmt} {f g : DSx} {fs : DS}
theorem xsup (h : PS X st (lfS X.K Z fs)) : PS X st (lfSx X.K X.mg Z W (xsUp fs)) := PSimp h fun D σ H h => by
  obtain ⟨M, s, r, rl, hf, k⟩ := h
  unfold xsUp at hf
  simp only [Option.map_eq_some_iff] at hf
  obtain ⟨fl, h1, rfl⟩ := hf
  exact ⟨M, s, fl, rl, h1, k⟩
theorem xssup (h : PSs X sts (lfS X.K Z fs)) : PSs X sts (lfSx X.K X.mg Z W (xsUp fs)) := PSsimp h fun D σ H h => by
  obtain ⟨M, s, r, rl, hf, k⟩ := h
  unfold xsUp at hf
  simp only [Option.map_eq_some_iff] at hf
  obtain ⟨fl, h1, rfl⟩ := hf
  exact ⟨M, s, fl, rl, h1, k⟩
theorem xscons (h1 : PS X st (lfSx X.K X.mg Z W f)) (h2 : PSs X sts (lfSx X.K X.mg Z W g)) : PSs X (st :: sts) (lfSx X.K X.mg Z W (xsSeq f g)) := PSsimp (pss_cons h1 h2) fun D σ H h => by
  obtain ⟨M, s, r, rl, hf, k⟩ := h
  unfold xsSeq at hf
  simp only [Option.bind_eq_some_iff] at hf
  obtain ⟨r1, h1, h2⟩ := hf
  refine ⟨M, s, r1, rl, h1, ?_⟩
  cases r1 with
  | ex c s' => cases h2; exact k
  | fl fl1 =>
    cases fl1 with
    | nx s1 =>
      refine fun M1 σ1 H1 k1 rl1 => ⟨M1, s1, r, rl1, h2, ?_⟩
      exact fxOk_mono k1 k
    | rt d s1 => cases h2; exact k
    | bk s1 => cases h2; exact k
    | ct s1 => cases h2; exact k
theorem xsone (h1 : PS X st (lfSx X.K X.mg Z W f)) : PSs X [st] (lfSx X.K X.mg Z W f) := pss_one h1
theorem xsnil : PSs X [] (lfSx X.K X.mg Z W (xsUp sNil)) := xssup snil
theorem xsfrz {i : Nat} (h : PSs X sts (lfSx X.K X.mg Z W g)) : PSs X sts (lfSx X.K X.mg Z W (xsSeq (xsUp (sFrz i)) g)) := PSsimp h fun D σ H h => by
  obtain ⟨M, s, r, rl, h1, k⟩ := h
  unfold xsSeq xsUp sFrz at h1
  simp only [Option.bind_eq_some_iff, Option.map_eq_some_iff] at h1
  obtain ⟨r1, ⟨fl1, h1, rfl⟩, h2⟩ := h1
  split at h1
  · rename_i ds hs
    cases h1
    obtain ⟨a, xs, M', g1, g2, g3, g4, g5, g6, g7⟩ := rl.sl.frz i hs
    have sub : ∀ b, Mu Z M' b → Mu Z M b := fun b hb => by
      rcases hb with hb | hb | hb
      · exact .inl hb
      · exact .inr (.inl hb)
      · exact .inr (.inr (g6 b hb))
    have na : ¬ Mu Z M' a := fun hb => by
      rcases hb with hb | hb | hb
      · exact (rl.fr a g4).2.2.1 hb
      · exact (rl.fr a g4).2.1 hb
      · exact g5 hb
    have kk : Kq Z M H M' H := fun c u e _ nn => ⟨e, fun z => nn (g6 c z)⟩
    refine ⟨M', _, r, ⟨rl.base, fun b hb => rl.fr b (g6 b hb), rl.mz, rl.pt, g7 _ sub na⟩, h2, ?_⟩
    exact fxOk_mono kk k
  · cases h1
theorem xsif {c : Expr} {xs ys : List Stmt} (hc : PT X c (lfT X.K Z t)) (ha : PSs X xs (lfSx X.K X.mg Z W f)) (hb : PSs X ys (lfSx X.K X.mg Z W g)) : PS X (.If c xs ys pos) (lfSx X.K X.mg Z W (xsIf t f g)) := PSimp (ps_if hc ha hb) fun D σ H h => by
  obtain ⟨M, s, r, rl, h1, k⟩ := h
  unfold xsIf at h1
  simp only [Option.bind_eq_some_iff] at h1
  obtain ⟨⟨c1, s1⟩, h1, h2⟩ := h1
  refine ⟨M, s, c1, s1, rl, h1, fun H1 k1 r1 => ?_⟩
  have k' := fxOk_mono k1 k
  cases c1 with
  | true => exact ⟨M, s1, r, r1, h2, k'⟩
  | false => exact ⟨M, s1, r, r1, h2, k'⟩
theorem xsifx {c : Expr} {xs ys : List Stmt} (hc : PT X c (lfTx X.K X.mg Z W tx)) (ha : PSs X xs (lfSx X.K X.mg Z W f)) (hb : PSs X ys (lfSx X.K X.mg Z W g)) : PS X (.If c xs ys pos) (lfSx X.K X.mg Z W (xsIfX tx f g)) := PSimp (ps_if hc ha hb) fun D σ H h => by
  obtain ⟨M, s, r, rl, h1, k⟩ := h
  unfold xsIfX at h1
  simp only [Option.bind_eq_some_iff] at h1
  obtain ⟨r1, h1, h2⟩ := h1
  refine ⟨M, s, r1, rl, h1, ?_⟩
  cases r1 with
  | ex c s' => cases h2; exact ExAt.toE k
  | ok p =>
    obtain ⟨c1, s1⟩ := p
    refine fun H1 k1 rl1 => ?_
    have k' := fxOk_mono k1 k
    cases c1 with
    | true => exact ⟨M, s1, r, rl1, h2, k'⟩
    | false => exact ⟨M, s1, r, rl1, h2, k'⟩
theorem xsret (he : PE X e (lftx X.K X.mg Z W xa)) : PS X (.Return (some e) pos) (lfSx X.K X.mg Z W (xsRet xa)) := PSimp (ps_ret he) fun D σ H h => by
  obtain ⟨M, s, r, rl, h1, k⟩ := h
  unfold xsRet at h1
  simp only [Option.map_eq_some_iff] at h1
  obtain ⟨r1, h1, h2⟩ := h1
  refine ⟨M, s, r1, rl, h1, ?_⟩
  cases r1 with
  | ex c s' => cases h2; exact ExAt.toE k
  | ok p => cases h2; exact fun v H1 k1 r1 t1 => k M σ H1 v k1 r1 t1
theorem xsdrop (he : PE X e (lftx X.K X.mg Z W xa)) (hs : swapsWith e none pos.line X.env = pure false := by rfl) : PS X (.Expr e pos) (lfSx X.K X.mg Z W (xsDrop xa)) := PSimp (ps_expr he hs) fun D σ H h => by
  obtain ⟨M, s, r, rl, h1, k⟩ := h
  unfold xsDrop at h1
  simp only [Option.map_eq_some_iff] at h1
  obtain ⟨r1, h1, h2⟩ := h1
  refine ⟨M, s, r1, rl, h1, ?_⟩
  cases r1 with
  | ex c s' => cases h2; exact ExAt.toE k
  | ok p => cases h2; exact fun v H1 k1 r1 t1 => k M σ H1 k1 r1
theorem xsset {i : Nat} {x : Str} {pos' : Pos} (hN : X.N.Nodup) (hi : X.N[i]? = some x) (hx : Loc X.env.scope x) (he : PE X e (lftx X.K X.mg Z W xa)) (hs : swapsWith e (some (.Name x pos')) pos.line X.env = pure false := by rfl)
    (hf : X.fn x = true ∨ X.env.scope.names.lookup x = some .local := by first | exact .inl rfl | exact .inr rfl | assumption) : PS X (.Assign [.Name x pos'] e pos) (lfSx X.K X.mg Z W (xsSet i xa)) := PSimp (ps_set hN hi hx he hs hf) fun D σ H h => by
  obtain ⟨M, s, r, rl, h1, k⟩ := h
  unfold xsSet at h1
  simp only [Option.map_eq_some_iff] at h1
  obtain ⟨r1, h1, h2⟩ := h1
  refine ⟨M, s, r1, rl, h1, ?_⟩
  cases r1 with
  | ex c s' => cases h2; exact ExAt.toE k
  | ok p =>
    cases h2
    refine fun v H1 k1 r1 t1 => ?_
    obtain ⟨M', _, r2, k2⟩ := r1.setDat t1 i
    exact k M' _ H1 (k1.trans k2) r2
theorem xsasg {tg : Expr} {g : TG} {gd : PyData → Sl → Option Sl} (he : PE X e (lftx X.K X.mg Z W xa)) (hg : PG X tg g) (hgd : TgOk X.K g gd) (hs : swapsWithSole [tg] e pos.line X.env = pure false := by rfl) (hw : swappedStores [tg] e X.env = pure none := by rfl)
    (h1 : (assignEach [tg] X.env).map (·.2) = [assign tg X.env] := by rfl) : PS X (.Assign [tg] e pos) (lfSx X.K X.mg Z W (xsAsg xa gd)) := PSimp (ps_asg he hg hs hw h1) fun D σ H h => by
  obtain ⟨M, s, r, rl, hf, k⟩ := h
  unfold xsAsg at hf
  simp only [Option.bind_eq_some_iff] at hf
  obtain ⟨r1, h1, h2⟩ := hf
  refine ⟨M, s, r1, rl, h1, ?_⟩
  cases r1 with
  | ex c s' => cases h2; exact ExAt.toE k
  | ok p =>
    simp only [Option.map_eq_some_iff] at h2
    obtain ⟨s2, h2, h3⟩ := h2
    cases h3
    exact fun v H1 k1 r1 t1 => hgd Z M σ H1 p.2 s2 v p.1 _ r1 t1 h2 fun M' σ' r2 k2 => k M' σ' H1 (k1.trans k2) r2
theorem xsraise {x m : Str} {j : Nat} {p p2 pos : Pos} {pos' : Pos} (c : ExcK X.K X.mg x) (hc : X.calm = true) (tk : Takes X W) (hg : Gl X x) (hdb : (x == ("__debug__" : Str)) = false := by decide) :
    PS X (.Raise (some (.Call (.Name x p) [.Constant (.str m) j p2] [] pos)) none pos') (lfSx X.K X.mg Z W (xsRaise x)) := by
  obtain ⟨C, hm, q1, q2, q3, q4⟩ := c.at_
  refine PSimp (ps_raise hc tk (pmk_own PySem.F.excBase_ValueError q1 hm q2 (raises_own q3 q4) hg hdb)) fun D σ H h => ?_
  obtain ⟨M, s, r, rl, hf, k⟩ := h
  cases hf
  exact k C M σ H hm (Kq.refl _ _ _) rl
end

/-! #### defs -/
def outX : Option Fx → Option (Rx PyData)
  | some (.fl (.rt d _)) => some (.ok d)
  | some (.fl (.nx _)) => some (.ok .none)
  | some (.ex c _) => some (.ex c)
  | _ => none
def fnX (N : List Str) (n : Nat) (b : DSx) : List PyData → Option (Rx PyData) := fun ds => if ds.length = n then outX (b (startS N ds)) else none
section
variable {P : Program} {w : World} {K : PySem.W.Frag} {mg : Str → Option Value} {base : Heap}
theorem okX {x qual : Str} {st : Stmt} {f : Addr} {fd : FuncData} {N ps : List Str} {k : Nat} {b : DSx} (F : Fun K x qual st f fd) (S : FnScope N ps (defScope st))
    (hb : ∀ (cdv : Value) (A : Around) (outer : List Env) (s : Shared) (H : Hp) (E : XK) (Z : Par), Room k (A.deeper (envOfC qual (defScope st) s.heap.objs.size f cdv)) → PSs (cxOf (L2.CX P w) P w K mg base N qual (defScope st) f cdv A outer s H E) (defBody st) (lfSx K mg Z (fun cls d _ H => E cls d H) b)) :
    FnOk P w K mg base (L2.CX P w) (k + 1) f fd ps (spX K mg (fnX N ps.length b)) := by
  refine F.okX S (fun vs H Q E h => ?_) (fun cdv A outer s H vs Q E hr h => ?_)
  · obtain ⟨mu, ds, d, h1, h2, h3, h4⟩ := h
    unfold fnX at h3
    split at h3
    · rename_i hl
      rw [h2.len]; exact hl
    · cases h3
  · obtain ⟨mu, ds, d, h1, h2, h3, h4⟩ := h
    unfold fnX at h3
    split at h3
    case isFalse => cases h3
    rename_i hl
    let Z : Par := ⟨H, none, mu⟩
    refine ⟨_, hb cdv A outer s H E Z hr, [], startS N ds, ?_⟩
    have muE : ∀ a, Mu Z [] a → mu a := fun a q => by
      rcases q with q | q | q
      · exact q
      · cases q
      · cases q
    have r : Rel K Z [] (start N vs) H (startS N ds) := by
      refine ⟨fun a o e _ => e, fun a ha => (by cases ha), h1, fun a ha => (by cases ha), ?_⟩
      unfold startS L2.start
      rw [h2.len]
      exact slAll_start _ (h2.mono fun a o e n => ⟨e, fun z => n (muE a z)⟩)
    unfold outX at h3
    split at h3
    · rename_i d1 s1 hq
      cases h3
      refine ⟨_, r, hq, fun M σ H1 v k1 r1 t1 => h4 v H1 (fun a o e => r1.base a o e (fun z => by cases z)) (t1.mono fun a o e n => ⟨e, fun z => n (.inl z)⟩)⟩
    · rename_i s1 hq
      cases h3
      refine ⟨_, r, hq, fun M σ H1 k1 r1 => h4 _ H1 (fun a o e => r1.base a o e (fun z => by cases z)) .non⟩
    · rename_i c s1 hq
      cases h3
      exact ⟨_, r, hq, fun C M σ H' hm k1 r1 => h4 C H' hm fun a o e => r1.base a o e fun z => by cases z⟩
    · cases h3
theorem calX {x : Str} {st : Stmt} {N ps : List Str} {k : Nat} {b : DSx} (F : Std K mg x st ps) (S : FnScope N ps (defScope st))
    (hb : ∀ (f : Addr) (cdv : Value) (A : Around) (outer : List Env) (s : Shared) (H : Hp) (E : XK) (Z : Par), Room k (A.deeper (envOfC x (defScope st) s.heap.objs.size f cdv)) → PSs (cxOf (L2.CX P w) P w K mg base N x (defScope st) f cdv A outer s H E) (defBody st) (lfSx K mg Z (fun cls d _ H => E cls d H) b)) :
    CalX P w K mg base (k + 1) x ps (spX K mg (fnX N ps.length b)) := by
  obtain ⟨f, fd, F, hm, hb2⟩ := F
  exact ⟨f, fd, okX F S (fun cdv A outer s H E Z hr => hb f cdv A outer s H E Z hr), hm, F.kp, hb2⟩
end
end Dl

/-! ### an exception caught and kept by a name -/
namespace Dl
open PySem PySem.Spec PyProof.Rows L2
section
variable {X : Cx} {pins : List (Addr × Obj)} {σ : L2.St} {H : Hp} {s : Shared} {a C : Addr}
theorem exZ_ok {P : Program} {w : World} {H : Hp} {h : Heap} {oe : Obj} {vs : Array Value} (e : h.get? a = some oe) (z : Zc (.ref C) none oe) (d : oe.data = .fields vs) : ObjOk P w H h a (ExZ C a) :=
  ⟨⟨oe, e, z, vs, d⟩, ⟨oe, e⟩, fun _ _ ⟨u, q, r⟩ k => ⟨u, k u q, r⟩⟩
/-- an object that came after the entry, not yet read, is read as an exception from here on -/
theorem Inv.notes (I : Inv X pins σ H s) {oe : Obj} {vs : Array Value} (e : s.heap.get? a = some oe) (z : Zc (.ref C) none oe) (d : oe.data = .fields vs) (hn : H a = none) (young : X.s_0.heap.get? a = none) (nl : a ≠ X.env.locals) (np : ∀ p ∈ X.pn ++ pins, p.1 ≠ a) : Inv X pins σ (upd H a (ExZ C a)) s := by
  have old : ∀ b o, X.s_0.heap.get? b = some o → b ≠ a := fun b o q w => by
    rw [w, young] at q
    cases q
  have stands : ∀ b u, H b = some u → upd H a (ExZ C a) b = some u := fun b u q => by
    rw [upd_ne (ne_of_none q hn)]
    exact q
  have ncell : ∀ x c, X.env.cells.lookup x = some c → c ≠ a := fun x c q w => by
    obtain ⟨v, o, h1, h2⟩ := I.cell x c q
    rw [w, e] at h1
    cases h1
    have h3 : oe.data = Data.cell v := h2
    rw [d] at h3
    cases h3
  exact {
    ok := I.ok
    os := I.os
    bare := I.bare
    base := {
      keep := I.base.keep
      slot := I.base.slot
      free := fun b o q n x => by
        rw [upd_ne (old b o q)]
        exact I.base.free b o q n x
      there := I.base.there
      tups := fun b xs q => stands _ _ (I.base.tups b xs q)
      frzs := fun b o u q => stands _ _ (I.base.frzs b o u q)
      tbls := fun b ps q => by
        obtain ⟨m, r⟩ := I.base.tbls b ps q
        exact ⟨m, stands _ _ r⟩ }
    loc := I.loc
    cell := I.cell
    free := by
      rw [upd_ne (fun w => nl w.symm)]
      exact I.free
    freeC := fun x c q => by
      rw [upd_ne (ncell x c q)]
      exact I.freeC x c q
    pin := fun p hp => by
      obtain ⟨h1, h2, h3⟩ := I.pin p hp
      exact ⟨h1, by rw [upd_ne (np p hp)]; exact h2, h3⟩
    hok := fun b u q => by
      by_cases hb : b = a
      · subst hb
        rw [upd_same] at q
        cases q
        exact exZ_ok e z d
      · rw [upd_ne hb] at q
        exact (I.hok b u q).stay (fun _ _ _ r => r) (fun c r => stands _ _ r) fun c xs r => stands _ _ r
    len := I.len }
end
/-- what is wished of an exception of a body whose clause keeps it: slot j has it, slot i is wiped -/
def wKeep (K : PySem.W.Frag) (c : Value) (i j n : Nat) (D : Ends) : WX := fun cls d σ H =>
  ∃ C : Addr, cls = .ref C ∧ d = none ∧ PySem.W.exmOne K (.ref C) c = some true ∧ (σ.length = n → ∀ a, H a = none → D.nx (((σ.set i (some (.ref a))).set j (some (.ref a))).set i none) (upd H a (ExZ C a)))
section
variable {X : Cx} {x n y : Str} {c : Value} {i j : Nat} {body : List Stmt} {np py pn pa pos pos' : Pos} {tb : WX → TS}
theorem ps_try_keep (hs : X.stack = X.env :: X.outer) (hf : X.env.frame = some X.env.locals) (hex : X.ex = []) (hN : X.N.Nodup) (hi : X.N[i]? = some n) (hln : X.env.kindOf n = some .local) (hj : X.N[j]? = some y) (hly : Loc X.env.scope y) (hc : Names X x c)
    (hb : ∀ (W : WX) (pn : List (Addr × Obj)) (xe : Value → Shared → Prop), Takes (X.tr pn xe) W → PassesOwn (model X.prog X.w) X.A X.env xe → PSs (X.tr pn xe) body (tb W))
    (hsu : ∀ (a : Addr) (oe : Obj) (pl : List (Addr × Obj)), PSs (X.suite a ((a, oe) :: pl)) [.Assign [.Name y py] (.Name n pn) pa] (fun D σ H => ∃ v, σ[i]? = some (some v) ∧ D.nx (σ.set j (some v)) H)) (hil : i < X.N.length) :
    PS X (.Try body [.ExceptHandler (some (.Name x np)) (some n) [.Assign [.Name y py] (.Name n pn) pa] pos'] [] [] pos) (fun D σ H => tb (wKeep X.K c i j X.N.length D) D σ H) := by
  refine ⟨fun pins s σ H D I h => ?_⟩
  have frames : X.A.frames = some (X.env :: X.outer) := I.ok.frames.trans (by rw [hs])
  have okX := I.ok
  have go := (hb (wKeep X.K c i j X.N.length D) (X.pn ++ pins) (fun ev t1 => wpAny (model X.prog X.w) X.A (noteFrame ev X.env) (fun _ t2 => wpAny (model X.prog X.w) X.A (setFlight ev none) (fun _ t3 =>
    wpAny (model X.prog X.w) X.A (handleBy ev X.env [.ExceptHandler (some (.Name x np)) (some n) [.Assign [.Name y py] (.Name n pn) pa] pos']) (SP X pins D) X.xe t3) X.xe t2) X.xe t1) (fun u t xx => ?_) PassesOwn.looking).run [] s σ H D (I.toTry _) h
  · refine wpAny_Try_except (wpAny_mono go (fun fl t done => ?_) fun _ _ z => z)
    cases fl with
    | next =>
      obtain ⟨σ1, H1, J, q⟩ := done
      exact wpAny_execs_nil ⟨σ1, H1, J.ofTry okX, q⟩
    | brk =>
      obtain ⟨σ1, H1, J, q⟩ := done
      exact ⟨σ1, H1, J.ofTry okX, q⟩
    | cont =>
      obtain ⟨σ1, H1, J, q⟩ := done
      exact ⟨σ1, H1, J.ofTry okX, q⟩
    | ret u =>
      obtain ⟨v, σ1, H1, J, r, q⟩ := done
      exact ⟨v, σ1, H1, J.ofTry okX, r, q⟩
  obtain ⟨a, B, tI, pl, σ1, H1, cls, dc, rfl, J0, inB, up, sky, na, os, bare, C, rfl, rfl, told, goal⟩ := xx
  have J : Inv X pins σ1 H1 tI := J0.ofTry okX
  have sky1 : Sky B (X.env :: X.outer) a (Zc (.ref C) none) X.env.locals t.heap := by rw [← hs]; exact sky
  show wpAny (model X.prog X.w) X.A (noteFrame (.ref a) X.env) _ _ _
  refine Sky.land Zc.steady frames hf sky1 fun h1 fly up1 => ?_
  have J1 : Inv X pins σ1 H1 { t with heap := h1 } := J.landed inB fly.1 (up.trans up1) os bare
  obtain ⟨o1, vs1, at1, z1, d1⟩ := fly.there
  have aFrame : a ∉ frs (X.env :: X.outer) := fun m => by
    obtain ⟨_, o2, at2, nof⟩ := fly.2.2.1.mem m
    rw [at1] at at2
    cases at2
    exact nof _ d1
  have aLoc : a ≠ X.env.locals := fun w => aFrame (List.mem_filterMap.mpr ⟨X.env, List.mem_cons_self, by rw [hf, w]⟩)
  have aFs : a ∉ X.fs := fun m => by
    obtain ⟨en, hen, q⟩ := List.mem_filterMap.mp m
    exact aFrame (List.mem_filterMap.mpr ⟨en, List.mem_cons_of_mem _ hen, q⟩)
  -- it wasn't there ahead
  have ahead : tI.heap.get? a = none := by
    cases q : tI.heap.get? a with
    | none => rfl
    | some o =>
      have w := inB a o q (by show a ∉ frs X.stack; rw [hs]; exact aFrame)
      rw [fly.2.1] at w
      cases w
  have young : X.s_0.heap.get? a = none := by
    cases q : X.s_0.heap.get? a with
    | none => rfl
    | some o =>
      obtain ⟨o', w⟩ := J.base.there a o q (by rw [hex]; exact List.not_mem_nil)
      rw [ahead] at w
      cases w
  have otherPins : ∀ p ∈ X.pn ++ pins, p.1 ≠ a := fun p hp w => by
    have q := (J.pin p hp).1
    rw [w, ahead] at q
    cases q
  refine wpAny_handleBy_cons (codeAny_handlers_test ?_) (by intro q; cases q)
  have ty : PySem.W.Looks (model X.prog X.w) h1 (typeOf (.ref a)) (.ref C) := fun _ _ _ _ k q => wpAny_typeOf_ref (k _ _ at1) (by rw [z1.1]; exact q)
  have matched := PySem.W.exm_one (M := model X.prog X.w) J1.kIn ty told
  have inSuite := J1.suite at1 d1 na aLoc aFs
  have named : ∀ {Q : Value → Shared → Prop} {F : Value → Shared → Prop}, Q c { t with heap := h1 } → wpAny (model X.prog X.w) (X.A.mark (some (.ref a))) (eval (.Name x np) X.env) Q F { t with heap := h1 } := fun {Q F} q => by
    obtain ⟨g1, g2, g3 | ⟨g3, g4, g5⟩⟩ := hc
    · exact ld_glob (X := X.suite a ((a, o1) :: (X.pn ++ pins))) inSuite g1 g3 q g2
    · exact ld_blt (X := X.suite a ((a, o1) :: (X.pn ++ pins))) inSuite g1 g3 g4 q g5 g2
  refine named (matched.here (codeAny_handlers_suite_as ?_))
  refine HandSPX.lands_againZ fly fun h2 fly2 up2 => ?_
  have J2 : Inv X pins σ1 H1 { t with heap := h2 } := J.landed inB fly2.1 ((up.trans up1).trans up2) os bare
  obtain ⟨o2, vs2, at2, z2, d2⟩ := fly2.there
  have inSuite2 := J2.suite at2 d2 na aLoc aFs
  refine store_ok (X := X.suite a ((a, o2) :: (X.pn ++ pins))) (v := .ref a) inSuite2 hN hi (.inl hln) rfl (fun t3 S3 => ?_) (.inr hln)
  have slot : (σ1.set i (some (V.ref a)))[i]? = some (some (.ref a)) := by
    rw [List.getElem?_set_self (by rw [J.len]; exact hil)]
  refine wpAny_mono ((hsu a o2 (X.pn ++ pins)).run [] t3 _ H1 { nx := fun σ' H' => σ' = (σ1.set i (some (V.ref a))).set j (some (.ref a)) ∧ H' = H1, rt := fun _ _ => False } S3 ⟨.ref a, slot, rfl, rfl⟩) (fun fl t4 done => ?_) fun _ _ z => z.elim
  cases fl with
  | next =>
    obtain ⟨σ4, H4, S4, e1, e2⟩ := done
    subst e1 e2
    obtain ⟨at4, _⟩ := S4.pin (a, o2) (List.mem_append_left _ List.mem_cons_self)
    have J4 : Inv X pins _ H4 t4 := S4.unsuite okX
    exact gone_ok (Dl.Inv.notes J4 at4 z2 d2 na young aLoc otherPins) hN hi hln fun t5 J5 => ⟨_, _, J5, goal J.len a na⟩
  | brk => obtain ⟨_, _, _, z⟩ := done; exact z.elim
  | cont => obtain ⟨_, _, _, z⟩ := done; exact z.elim
  | ret u => obtain ⟨_, _, _, _, _, z⟩ := done; exact z.elim
end
end Dl

/-! ### a lambda handed to a def that tells which exception came -/
namespace Dl
open PySem PySem.Spec PyProof.Rows L2
/-- the table at P, all of whose code objects bear the name q -/
def Tabl (H : Hp) (P : Addr) (q : Str) (old : Addr → Prop) : Prop := ∃ ps : Array Value, H P = some (.tbl ps) ∧ TriplesOk ps.toList ∧ ∀ (pos : Pos) (cv : Value), codeAmong pos ps.toList = some cv → ∃ c, cv = .ref c ∧ H c = some (LamX.CodeO c q) ∧ old c
section
variable {X : Cx} {pins : List (Addr × Obj)} {σ : L2.St} {H : Hp} {s : Shared}
/-- a lambda is made: nothing but the table and new objects changes -/
theorem lam_new {c P : Addr} {old : Addr → Prop} {ps0 : Arguments} {body : Expr} {scope : Scope} {pos : Pos} {F : Value → Shared → Prop} {Q : Value → Shared → Prop} (I : Inv X pins σ H s) (TB : LamX.TabB X.base X.mg c P) (hcode : X.env.code = .ref c)
    (tab : Tabl H P (X.env.qual ++ "<lambda>") old) (hdef : defaultsOf ps0 X.env = ([], [])) (hfree : ∀ y ∈ scope.names, y.2 = .free → ∃ c, X.env.cells.lookup y.1 = some c)
    (h : ∀ (f c' : Addr) (pm ctv : Value) (H1 : Hp) (s1 : Shared), Inv X pins σ H1 s1 → (∀ b o, b ≠ P → H b = some o → H1 b = some o) → Tabl H1 P (X.env.qual ++ "<lambda>") (fun c => old c ∨ H c = none) →
      s1.heap.get? f = some (PySem.W.kla_obj "<lambda>" (X.env.qual ++ "<lambda>") ps0 body scope (cloFrom X.env.cells scope.names []) pm c' ctv) → H1 f = none → f ∉ frs X.stack → H1 c' = some (LamX.CodeO c' (X.env.qual ++ "<lambda>")) → Q (.ref f) s1) :
    wpAny (model X.prog X.w) X.A (eval (.Lambda ps0 body scope pos) X.env) Q F s := by
  obtain ⟨ps, atP, tr, codes⟩ := tab
  have mods : s.heap.BuiltinsAt X.mg P := TB.bm.keeps I.bk
  have inHeap := I.hok P _ atP
  have outside : ∀ z, s.heap.objs.size ≤ z → z ∉ frs X.stack := fun z hz m => (List.mem_cons.mp (I.stkSub _ m)).elim (fun e => absurd I.lt (by rw [← e]; exact Nat.not_lt.mpr hz)) (I.nofs hz)
  refine PySem.W.kla_eval hdef ?_
  rcases found : codeAmong pos ps.toList with _ | cv
  · refine PySem.W.kla_makeFunction (closure_ok hfree) I.ok.glob (I.mod.glob.keeps I.bk) hcode (TB.code.keeps I.bk) inHeap tr found TB.gP mods fun c' ctv hp tk ext ge lt rec here => ?_
    obtain ⟨_, oc, us, u, e, g1, g2, g3⟩ := rec
    cases e
    have new : H c' = none := I.hok.fresh ge
    have J := LamX.inv_table (t' := tk) (more := #[rawInt pos.line, rawInt pos.col, .ref c']) (h' := hp.push (PySem.W.kla_obj "<lambda>" (X.env.qual ++ "<lambda>") ps0 body scope (cloFrom X.env.cells scope.names []) ((X.mg "__name__").getD .none) c' ctv)) I atP
      (fun b o nb e => Heap.get?_push_of_some _ (ext b o nb e)) (Heap.get?_push_of_some _ here) ge ⟨oc, us, u, Heap.get?_push_of_some _ g1, g2, g3⟩
    have stays : ∀ b o, b ≠ P → H b = some o → (upd (upd H P (.tbl (ps ++ #[rawInt pos.line, rawInt pos.col, .ref c']))) c' (LamX.CodeO c' (X.env.qual ++ "<lambda>"))) b = some o := fun b o nb e => by
      rw [upd_ne (ne_of_none e new), upd_ne nb]; exact e
    have two : (ps ++ #[rawInt pos.line, rawInt pos.col, .ref c']).toList = ps.toList ++ [rawInt pos.line, rawInt pos.col, .ref c'] := by simp
    have behind : s.heap.objs.size ≤ hp.objs.size := by omega
    refine h hp.objs.size c' ((X.mg "__name__").getD .none) ctv _ _ J stays ⟨ps ++ #[rawInt pos.line, rawInt pos.col, .ref c'], ?_, ?_, fun p2 cv hcv => ?_⟩ (Heap.get?_push_size _ rfl) ?_ (outside _ behind) upd_same
    · rw [upd_ne (ne_of_none atP new), upd_same]
    · rw [two]; exact TriplesOk_snoc _ _ _ _ tr
    · rw [two] at hcv
      rcases LamX.among_app _ tr hcv with z | z
      · obtain ⟨d, e1, e2, e3⟩ := codes p2 cv z
        refine ⟨d, e1, stays d _ (fun w => ?_) e2, .inl e3⟩
        rw [w, atP] at e2
        exact LamX.codeO_ne ps (Option.some.inj e2).symm
      · exact ⟨c', z, upd_same, .inr new⟩
    · rw [upd_ne (Nat.ne_of_gt lt), upd_ne (Nat.ne_of_gt (Nat.lt_of_lt_of_le (Heap.lt_size inHeap) behind))]
      exact I.hok.fresh behind
  · obtain ⟨c', e, co, ol⟩ := codes pos cv found
    subst e
    refine PySem.W.kla_makeFunctionHit (closure_ok hfree) I.ok.glob (I.mod.glob.keeps I.bk) hcode (TB.code.keeps I.bk) inHeap tr found mods fun ctv hp tk ext behind => ?_
    refine h hp.objs.size c' ((X.mg "__name__").getD .none) ctv H _ (I.kept (h' := hp.push (PySem.W.kla_obj "<lambda>" (X.env.qual ++ "<lambda>") ps0 body scope (cloFrom X.env.cells scope.names []) ((X.mg "__name__").getD .none) c' ctv)) (t' := tk) fun b o e => Heap.get?_push_of_some _ (ext b o e)) (fun _ _ _ e => e) ⟨ps, atP, tr, fun p2 cv z => ?_⟩ (Heap.get?_push_size _ rfl) (I.hok.fresh behind) (outside _ behind) co
    obtain ⟨d, e1, e2, e3⟩ := codes p2 cv z
    exact ⟨d, e1, e2, .inl e3⟩
def tWord (P : Addr) (q : Str) (TT : (XK → Hp → VK → Prop) → Hp → VK → Prop) (t : XK → TE) : TE := fun σ H Q => ∃ old : Addr → Prop, Tabl H P q old ∧ ∀ H1, (∀ b o, b ≠ P → H b = some o → H1 b = some o) → Tabl H1 P q (fun c => old c ∨ H c = none) → TT (fun E H' Q' => t E σ H' Q') H1 Q
/-- x(lambda: body) -/
theorem pe_word {TT : (XK → Hp → VK → Prop) → Hp → VK → Prop} {x a : Str} {g c P : Addr} {k : Nat} {pg : Arguments} {bg : List Stmt} {sg : Scope} {dV kV doc pm cdv ct oc : Value} {an od : Option Addr} {osl : Array (Option Value)} {Ng : List Str}
    {ps0 : Arguments} {body : Expr} {scope : Scope} {t : XK → TE} {p lpos pos : Pos} (hg : Gl X x) (hm : X.mg x = some (.ref g)) (hk : PySem.W.keepIn X.K (.ref g) = true)
    (lk : X.K.lookup g = some ⟨oc, od, .func (PySem.W.fnOf x x pg bg sg dV kV doc pm an cdv ct), osl⟩) (hcg : PySem.W.codeIn X.K cdv x = true) (hb : L2.Binds X.K (PySem.W.fnOf x x pg bg sg dV kV doc pm an cdv ct) [a] []) (Sg : FnScope Ng [a] sg) (hNg : Ng[0]? = some a) (hva : Vis sg a)
    (hG : LamX.GivesTo X Ng x sg g cdv bg a (X.env.qual ++ "<lambda>") TT)
    (TB : LamX.TabB X.base X.mg c P) (hcode : X.env.code = .ref c) (hr : Room (k + 2) X.A) (L : LamX.LamS X.env.scope scope) (hdef : defaultsOf ps0 X.env = ([], []))
    (hbind : ∀ (q : Str) (cl : List (Str × Addr)) (pm cv ctv : Value), bindArgs (PySem.W.kla_fn "<lambda>" q ps0 body scope cl pm cv ctv) ⟨[], []⟩ = pure [])
    (hbody : ∀ (A : Around) (outer : List Env) (s : Shared) (H : Hp) (E : XK) (f c' : Addr), Room k (A.deeper (LamX.lamEnv X scope s.heap.objs.size f c')) → PE (LamX.lamCx X A outer s H E scope f c') body (t E))
    (hdb : (x == ("__debug__" : Str)) = false := by decide) (hd : (a == ("__debug__" : Str)) = false := by decide) (hcd : (a == ("__classdict__" : Str)) = false := by decide) :
    PE X (.Call (.Name x p) [.Lambda ps0 body scope lpos] [] pos) (tWord P (X.env.qual ++ "<lambda>") TT t) := by
  refine ⟨fun pins s σ H Q I ⟨old, tab, goal⟩ => wpAny_Call_Name_kw (ld_glob I hg hm ?_ hdb)⟩
  refine PySem.W.callWith_K (h₀ := X.base) I.ok.mod.kin hk ?_ (by rfl) (by rfl)
  show wpAny _ _ (spliced ((false, eval (.Lambda ps0 body scope lpos) X.env) :: backTo pos (starEach [] X.env))) _ _ s
  refine Calls.spliced_cons (lam_new I TB hcode tab hdef (L.has I.ok) fun f c' pmv ctv H1 t1 J stays tab1 atF newF outF atC => Calls.spliced_nil ⟨J.kIn, ?_⟩)
  have ran : codeAny (model X.prog X.w) X.A (.call (.ref g) ⟨[.ref f], []⟩) (CR C8.CX0 X.stack X.prog X.w H1 t1 Q C8.E0) t1 := by
    refine LamX.run_ofS (N := Ng) (ps := [a]) (us := [.ref f]) (vs := [.ref f]) lk hcg Sg hr J.env0 (hb t1 [.ref f] J.kIn rfl) (.cons rfl .nil) rfl fun room => ?_
    obtain ⟨tt, run, ready⟩ := hG f c' t1 H1 Q (fun E H' Q' => t E σ H' Q') (fun W pn xe E p1 p2 tk hW => LamX.pe_act (i := 0) J L atF newF outF (hbind _ _ _ _ _) tk hW room (fun A outer s H r2 => hbody A outer s H E f c' r2) hNg hva hd hcd) atC (goal H1 stays tab1)
    exact ⟨tt, run.nox, ready⟩
  refine wpAny_call (codeAny_mono ran fun r t2 hq => ?_)
  match r, hq with
  | .ok (.ret u), hq => exact J.after hq
  | .ok .next, z => exact z.elim
  | .ok .brk, z => exact z.elim
  | .ok .cont, z => exact z.elim
  | .error _, z => exact (show False from z).elim
end
/-- names on which the table is seen: just these -/
def okTab (s : Sl) (q : Str) : Bool := s.any (fun v => match v with | .tab z => decide (z = q) | _ => false) && s.all (fun v => match v with | .tab z => decide (z = q) | _ => true)
section
variable {K : PySem.W.Frag} {mu mu' : Addr → Prop} {H H' : Hp} {p : Option Addr} {Z : Par} {M M' : List Addr} {σ : L2.St} {s : Sl} {q : Str}
theorem SlAll.tabAt : ∀ {σ : L2.St} {s : Sl} {M : List Addr}, SlAll K mu p H σ s M → s.any (fun v => match v with | .tab z => decide (z = q) | _ => false) = true → ∃ P, p = some P ∧ Tabl H P q (fun c => ¬ mu c)
  | _, _, _, .nil, e => by cases e
  | _, _, _, .dat _ t, e => SlAll.tabAt t (by simpa using e)
  | _, _, _, .no t, e => SlAll.tabAt t (by simpa using e)
  | _, _, _, .own _ _ _ t, e => SlAll.tabAt t (by simpa using e)
  | _, _, _, .pot _ _ _ t, e => SlAll.tabAt t (by simpa using e)
  | _, _, _, .dic _ _ t, e => SlAll.tabAt t (by simpa using e)
  | _, _, _, .tab (q := z) e0 h d f t, e => by
    rw [List.any_cons, Bool.or_eq_true] at e
    rcases e with e | e
    · have e' : z = q := of_decide_eq_true e
      subst e'
      exact ⟨_, e0, _, h, d, f⟩
    · exact SlAll.tabAt t e
theorem SlAll.reTab {P : Addr} {ps0 : Array Value} (hp : p = some P) (was : H P = some (.tbl ps0)) (k : ∀ b o, b ≠ P → H b = some o → H' b = some o) (n : ∀ a, a ∈ M' → a ≠ P) (kk : Kp mu H mu H') (now : Tabl H' P q (fun c => ¬ mu c)) :
    ∀ {σ : L2.St} {s : Sl} {M : List Addr}, SlAll K mu p H σ s M → (∀ a ∈ M, a ∈ M') → s.all (fun v => match v with | .tab z => decide (z = q) | _ => true) = true → SlAll K mu p H' σ s M := by
  intro σ s M t
  induction t with
  | nil => intro _ _; exact .nil
  | dat h t ih => intro hs e; exact .dat (h.mono kk) (ih hs (by simpa using e))
  | no t ih => intro hs e; exact .no (ih hs (by simpa using e))
  | own h d m t ih => intro hs e; exact .own (k _ _ (n _ (hs _ List.mem_cons_self)) h) (d.mono kk) m (ih (fun a ha => hs a (List.mem_cons_of_mem _ ha)) (by simpa using e))
  | dic h m t ih => intro hs e; exact .dic (h.mono kk fun o => k _ _ (n _ (hs _ List.mem_cons_self))) m (ih (fun a ha => hs a (List.mem_cons_of_mem _ ha)) (by simpa using e))
  | pot e0 h d t ih =>
    rw [hp] at e0
    cases e0
    rw [was] at h
    cases h
  | @tab x a ps z σ s M e0 h d f t ih =>
    intro hs e
    rw [List.all_cons, Bool.and_eq_true] at e
    have e' : z = q := of_decide_eq_true e.1
    subst e'
    rw [hp] at e0
    cases e0
    obtain ⟨ps, h1, h2, h3⟩ := now
    exact .tab hp h1 h2 h3 (ih hs e.2)
end
/-- what `_law_word` says of how a call ended -/
def dWord (q : Str) (wd : Option Str → Option Str) (m : List PyData → Option (Rx PyData)) (g : DA) : DE := fun s => if okTab s q = true then (g s).bind fun p => (m p.1).bind fun r => (wd (match r with
    | .ok _ => none
    | .ex c => some c)).map fun w => (.str w, p.2) else none
def TTw (K : PySem.W.Frag) (nm : List Str) (wd : Option Str → Option Str) : (XK → Hp → VK → Prop) → Hp → VK → Prop := fun tl H Q => ∀ (E' : XK) (Q' : VK),
  (∀ (c w : Str) (H' : Hp), c ∈ nm → wd (some c) = some w → (∀ H'', (∀ a o, H' a = some o → H'' a = some o) → Q (.str w) H'') → E' (.ref (He.ga K c)) none H') →
  (∀ (v : V) (w : Str) (H' : Hp), wd none = some w → (∀ H'', (∀ a o, H' a = some o → H'' a = some o) → Q (.str w) H'') → Q' v H') → tl E' H Q'
/-- the names of the exceptions that may come stand where the head has them -/
def Nmd (K : PySem.W.Frag) (mg : Str → Option Value) (nm : List Str) : Prop := ∀ c ∈ nm, mg c = some (.ref (He.ga K c))
section
variable {X : Cx} {Z : Par} {ga : DA}
theorem lift_word {P : Addr} {q : Str} {wd : Option Str → Option Str} {m : List PyData → Option (Rx PyData)} {nm : List Str} (hZ : Z.p = some P) (hn : Nmd X.K X.mg nm) (in_ : ∀ c w, wd (some c) = some w → c ∈ nm) {σ : L2.St} {H : Hp} {Q : VK} (h : lft X.K Z (dWord q wd m ga) σ H Q) :
    tWord P q (TTw X.K nm wd) (fun E => lftx X.K X.mg Z (fun cls d _ H => E cls d H) (xCall m ga)) σ H Q := by
  obtain ⟨M, s, d, s', rl, hf, k⟩ := h
  unfold dWord at hf
  split at hf
  case isFalse => cases hf
  rename_i ok
  simp only [Option.bind_eq_some_iff, Option.map_eq_some_iff] at hf
  obtain ⟨⟨ds, s1⟩, h1, r, h2, w, h3, h4⟩ := hf
  cases h4
  unfold okTab at ok
  rw [Bool.and_eq_true] at ok
  obtain ⟨P', e, tab⟩ := rl.sl.tabAt ok.1
  rw [hZ] at e
  cases e
  refine ⟨_, tab, fun H1 stays tab1 E' Q' hE hQ => ?_⟩
  obtain ⟨ps0, was, _, _⟩ := tab
  have nM : ∀ a ∈ M, a ≠ P := fun a ha e => (rl.fr a ha).2.1 (by rw [e]; exact hZ)
  have nmu : ∀ a, ¬ Mu Z M a → a ≠ P := fun a n e => n (.inr (.inl (by rw [e]; exact hZ)))
  have kk : Kp (Mu Z M) H (Mu Z M) H1 := fun a o e n => ⟨stays a o (nmu a n) e, n⟩
  have tab2 : Tabl H1 P q (fun c => ¬ Mu Z M c) := by
    obtain ⟨ps, g1, g2, g3⟩ := tab1
    refine ⟨ps, g1, g2, fun pos cv z => ?_⟩
    obtain ⟨c, e1, e2, e3⟩ := g3 pos cv z
    refine ⟨c, e1, e2, e3.elim id fun e0 n => ?_⟩
    obtain ⟨o, e⟩ := rl.muT c n
    rw [e0] at e
    cases e
  have kq : Kq Z M H M H1 := fun a o e n1 n2 => ⟨stays a o (fun z => n1 (by rw [z]; exact hZ)) e, n2⟩
  have there : ∀ a o, H a = some o → ∃ u, H1 a = some u := fun a o e => by
    by_cases z : a = P
    · obtain ⟨ps, g1, _⟩ := tab2
      exact ⟨_, by rw [z]; exact g1⟩
    · exact ⟨o, stays a o z e⟩
  have rl1 : Rel X.K Z M σ H1 s := by
    refine ⟨fun a o e n => stays a o (fun z => n (by rw [z]; exact hZ)) (rl.base a o e n), fun a ha => ?_, fun a ha => let ⟨o, e⟩ := rl.mz a ha; there a o e, fun a ha => let ⟨o, e⟩ := rl.pt a ha; there a o e, ?_⟩
    · obtain ⟨f1, f2, f3, o, f4⟩ := rl.fr a ha
      exact ⟨f1, f2, f3, there a o f4⟩
    · exact SlAll.reTab hZ was stays nM kk tab2 rl.sl (fun _ h => h) ok.2
  refine ⟨M, s, _, rl1, by unfold xCall; rw [h1, Option.bind_some, h2, Option.map_some], ?_⟩
  cases r with
  | ok d => exact fun v H2 k2 r2 _ => hQ v w H2 h3 fun H3 g3 => k _ H3 (kq.trans (k2.trans (kq_grow g3))) (r2.grow g3) (.str w)
  | ex c =>
    refine fun C H2 hm k2 r2 => ?_
    have hc := in_ c w h3
    have e := hn c hc
    rw [hm] at e
    cases e
    exact hE c w H2 hc h3 fun H3 g3 => k _ H3 (kq.trans (k2.trans (kq_grow g3))) (r2.grow g3) (.str w)
end
end Dl

/-! ### which exception came: the rules, over trees -/
namespace Dl
open PySem PySem.Spec PyProof.Rows L2
/-- what the head knows of the exceptions that may come (nm), asked by isinstance for these (ts) -/
structure ExF (K : PySem.W.Frag) (mg : Str → Option Value) (nm ts : List Str) : Prop where
  cls : ∀ c ∈ nm, ExcC K (He.ga K c)
  kit : ∀ c ∈ nm, ∀ C ∈ ts, PySem.W.kitOne K (.ref (He.ga K c)) (.ref (He.ga K C)) = some (decide (c = C))
  val : ∀ c ∈ nm, PySem.W.kitOne K (.ref (He.ga K c)) (.type "ValueError") = some true
  top : ∀ c ∈ nm, PySem.W.exmOne K (.ref (He.ga K c)) (.ref (He.ga K "AskError")) = some true
  at_ : ∀ c ∈ ("AskError" : Str) :: (nm ++ ts), mg c = some (.ref (He.ga K c))
  mak : ∀ c ∈ nm, ExcK K mg c
def excCB (K : PySem.W.Frag) (D : Addr) : Bool :=
  decide (PySem.W.findIn K (.ref D) "__getattribute__" = some (some (.builtin "BaseException.__getattribute__"))) && (decide (PySem.W.findIn K (.ref D) "__getattr__" = some none) && (decide (PySem.W.subIn K (.ref D) (.type "BaseException") = some true) && (PySem.W.hasDictIn K D &&
  (decide (PySem.W.findIn K (.ref D) "__class__" = some (some (.builtin "object.__class__"))) && (decide (PySem.W.specialIn K (.builtin "object.__class__") "__get__" = some (some (.builtin "getset_descriptor.__get__"))) && (decide (PySem.W.takesIn K (.builtin "object.__class__") = some true) && decide (PySem.W.mroIn K D (.type "object") = some true)))))))
theorem excCB_ok {K : PySem.W.Frag} {D : Addr} (h : excCB K D = true) : ExcC K D := by
  unfold excCB at h
  simp only [Bool.and_eq_true, decide_eq_true_eq] at h
  obtain ⟨h1, h2, h3, h4, h5, h6, h7, h8⟩ := h
  exact ⟨h1, h2, h3, h4, h5, h6, h7, h8⟩
def exkB (K : PySem.W.Frag) (c : Str) : Bool := (He.Fa.exc c).ok K
def exfB (nm ts : List Str) (K : PySem.W.Frag) : Bool :=
  nm.all (fun c => excCB K (He.ga K c) && (ts.all (fun C => decide (PySem.W.kitOne K (.ref (He.ga K c)) (.ref (He.ga K C)) = some (decide (c = C)))) && (decide (PySem.W.kitOne K (.ref (He.ga K c)) (.type "ValueError") = some true) && (decide (PySem.W.exmOne K (.ref (He.ga K c)) (.ref (He.ga K "AskError")) = some true) && exkB K c)))) &&
  (("AskError" : Str) :: (nm ++ ts)).all fun c => (He.Fa.glo c).ok K
theorem exF_of {K : PySem.W.Frag} {h : Heap} {mg : Str → Option Value} {nm ts : List Str} (X : K.In h) (G : h.Ns mainGlobals mg) (e : exfB nm ts K = true) : ExF K mg nm ts := by
  unfold exfB at e
  rw [Bool.and_eq_true, List.all_eq_true, List.all_eq_true] at e
  obtain ⟨e1, e2⟩ := e
  have at_ : ∀ c ∈ ("AskError" : Str) :: (nm ++ ts), mg c = some (.ref (He.ga K c)) := fun c hc => He.glo_ok X G (e2 c hc)
  have part : ∀ c ∈ nm, ExcC K (He.ga K c) ∧ (∀ C ∈ ts, PySem.W.kitOne K (.ref (He.ga K c)) (.ref (He.ga K C)) = some (decide (c = C))) ∧ PySem.W.kitOne K (.ref (He.ga K c)) (.type "ValueError") = some true ∧ PySem.W.exmOne K (.ref (He.ga K c)) (.ref (He.ga K "AskError")) = some true ∧ exkB K c = true := fun c hc => by
    have q := e1 c hc
    simp only [Bool.and_eq_true, decide_eq_true_eq, List.all_eq_true] at q
    obtain ⟨q1, q2, q3, q4, q5⟩ := q
    exact ⟨excCB_ok q1, q2, q3, q4, q5⟩
  refine ⟨fun c hc => (part c hc).1, fun c hc => (part c hc).2.1, fun c hc => (part c hc).2.2.1, fun c hc => (part c hc).2.2.2.1, at_, fun c hc => ?_⟩
  obtain ⟨q1, q2, q3, q4⟩ := He.exc_ok (show (He.Fa.exc c).ok K = true from (part c hc).2.2.2.2)
  exact ⟨_, at_ c (List.mem_cons_of_mem _ (List.mem_append_left _ hc)), q1, q2, q3, q4⟩
/-- e is None -/
def isNoneD : PyData → Bool
  | .none => true
  | _ => false
def gIsN : PyData → PyData → Option PyData
  | d, .none => some (.bool (isNoneD d))
  | _, _ => none
def gNotN : PyData → PyData → Option PyData
  | d, .none => some (.bool (!isNoneD d))
  | _, _ => none
theorem isNone_dt {K : PySem.W.Frag} {mu : Addr → Prop} {H : Hp} {x : V} {d : PyData} (t : Dt K mu H x d) : decide (x = .non) = isNoneD d := by
  cases t <;> rfl
theorem ok_isN {K : PySem.W.Frag} : OpOk K (fun x y H Q => y = .non ∧ Q (.bl (decide (x = .non))) H) gIsN := fun mu H x y d1 d2 d Q hm t1 t2 e k => by
  unfold gIsN at e
  split at e
  · cases e
    exact ⟨t2.none_, by rw [isNone_dt t1]; exact k _ H (fun _ _ z => z) (.bl _)⟩
  · cases e
theorem ok_notN {K : PySem.W.Frag} : OpOk K (fun x y H Q => y = .non ∧ Q (.bl (!decide (x = .non))) H) gNotN := fun mu H x y d1 d2 d Q hm t1 t2 e k => by
  unfold gNotN at e
  split at e
  · cases e
    exact ⟨t2.none_, by rw [isNone_dt t1]; exact k _ H (fun _ _ z => z) (.bl _)⟩
  · cases e
/-- isinstance of an exception -/
def gIsE (nm : List Str) (C : Str) : PyData → Option PyData
  | .dict [(.none, .str c)] => if c ∈ nm then some (.bool (decide (c = C))) else none
  | _ => none
def gIsEs (nm : List Str) (Cs : List Str) : PyData → Option PyData
  | .dict [(.none, .str c)] => if c ∈ nm then some (.bool (Cs.any fun C => decide (c = C))) else none
  | _ => none
def gIsEV (nm : List Str) : PyData → Option PyData
  | .dict [(.none, .str c)] => if c ∈ nm then some (.bool true) else none
  | _ => none
theorem kv_real {K : PySem.W.Frag} {mu : Addr → Prop} {H : Hp} : ∀ {kvs : List (Key × V)} {ds : List (PyData × PyData)}, DtKv K mu H kvs ds → ∀ p ∈ ds, p.1 ≠ .none
  | _, _, .nil, _, hp => by cases hp
  | _, _, .cons (k := k) h t, p, hp => by
    rcases List.mem_cons.mp hp with e | q
    · rw [e]; exact kD_none k
    · exact kv_real t p q
theorem Dt.excAt {K : PySem.W.Frag} {mu : Addr → Prop} {H : Hp} {v : V} {c : Str} (t : Dt K mu H v (.dict [(.none, .str c)])) : ∃ a, v = .ref a ∧ H a = some (ExZ (He.ga K c) a) := by
  generalize e : PyData.dict [(.none, .str c)] = d at t
  cases t with
  | scr h u => cases e
  | exc h n => cases e; exact ⟨_, rfl, h⟩
  | @dct a kvs ds h n u =>
    injection e with e
    subst e
    exact absurd rfl (kv_real u _ List.mem_cons_self)
  | _ => cases e
/-- isinstance(e, c) of an exception that is read in H -/
def rIsX (K : PySem.W.Frag) : List V → Hp → VK → Prop := fun xs H Q => ∃ (a D : Addr) (c : V) (u : Value) (b : Bool), xs = [.ref a, c] ∧ H a = some (ExZ D a) ∧ ExcC K D ∧ ClsV c u ∧ PySem.W.kitOne K (.ref D) u = some b ∧ Q (.bl b) H
def rIsXs (K : PySem.W.Frag) : List V → Hp → VK → Prop := fun xs H Q => ∃ (a D tp : Addr) (cs : List V) (us : List Value) (b : Bool), xs = [.ref a, .ref tp] ∧ H a = some (ExZ D a) ∧ ExcC K D ∧ H tp = some (.tup cs) ∧ Paired ClsV cs us ∧ PySem.W.kitAny K (.ref D) us = some b ∧ Q (.bl b) H
section
variable {X : Cx}
theorem inst_of {pins : List (Addr × Obj)} {σ : L2.St} {H : Hp} {s : Shared} {a D : Addr} (I : Inv X pins σ H s) (h : H a = some (ExZ D a)) : ∃ oe, PySem.W.InstAt s.heap a oe D none := by
  obtain ⟨⟨oe, e, z, vs, d⟩, _, _⟩ := I.hok a _ h
  obtain ⟨oc, od, oda, osl⟩ := oe
  obtain ⟨z1, z2⟩ := z
  dsimp only at z1 z2 d
  subst z1 z2 d
  exact ⟨_, e, rfl, rfl, trivial⟩
theorem call_isX : CallR X (.builtin "isinstance") (rIsX X.K) := by
  intro pins s σ H xs us Q I r h
  obtain ⟨a, D, c, u, b, rfl, hD, C, k, e, q⟩ := h
  obtain ⟨u1, u2, rfl, r1, r2⟩ := vals2 r
  obtain rfl : u1 = .ref a := r1
  have e2 := k.eq r2
  subst e2
  obtain ⟨oe, J⟩ := inst_of I hD
  exact PySem.W.kia_one (PySem.W.handS_kitx_exc C.hg C.hk C.hs C.hd C.ha C.hn C.ht C.hm) I.kIn J e (fun z => nomatch z) fun tk => ⟨.bl b, H, I.tok tk, rfl, q⟩
theorem call_isXs : CallR X (.builtin "isinstance") (rIsXs X.K) := by
  intro pins s σ H xs us Q I r h
  obtain ⟨a, D, tp, cs, ws, b, rfl, hD, C, hT, k, e, q⟩ := h
  obtain ⟨u1, u2, rfl, r1, r2⟩ := vals2 r
  obtain rfl : u1 = .ref a := r1
  obtain rfl : u2 = .ref tp := r2
  obtain ⟨oe, J⟩ := inst_of I hD
  obtain ⟨_, its, rv, o, h1, h2, n, h3⟩ := (show ObjOk X.prog X.w H s.heap tp (.tup cs) from I.hok tp _ hT)
  have e3 := ClsV.all k rv
  subst e3
  obtain ⟨oc, od, dt, sl⟩ := o
  simp only at h2 h3
  subst h2 h3
  exact PySem.W.kia_tup (PySem.W.handS_kitx_exc C.hg C.hk C.hs C.hd C.ha C.hn C.ht C.hm) I.kIn J h1 e (fun z => nomatch z) fun tk => ⟨.bl b, H, I.tok tk, rfl, q⟩
end
section
variable {X : Cx} {Z : Par} {a b e : Expr} {es : List Expr} {pos : Pos} {fa fb : DE} {nm ts : List Str}
theorem disX {x C : Str} {p p2 : Pos} (Fx : ExF X.K X.mg nm ts) (hC : C ∈ ts) (hg : Gl X x) (hm : X.mg x = none) (hv : bootBuiltins x = some (.builtin "isinstance")) (hg2 : Gl X C) (ha : PE X e (lft X.K Z fa)) (hn : x ≠ "__name__" := by decide) (hdb : (x == ("__debug__" : Str)) = false := by decide) (hdb2 : (C == ("__debug__" : Str)) = false := by decide)
    (he : starEach [e, .Name C p2] X.env = (false, eval e X.env) :: starEach [.Name C p2] X.env := by rfl) (he2 : starEach [.Name C p2] X.env = (false, eval (.Name C p2) X.env) :: starEach [] X.env := by rfl) (hpl : (backTo pos (starEach [.Name C p2] X.env)).any (·.1) = false := by rfl) :
    PE X (.Call (.Name x p) [e, .Name C p2] [] pos) (lft X.K Z (dUn (gIsE nm C) fa)) := PEimp (pe_callB call_isX hg hm hv (pa_cons ha (pa_cons (pe_glob (v := .ref (He.ga X.K C)) hg2 (Fx.at_ C (List.mem_cons_of_mem _ (List.mem_append_right _ hC))) rfl hdb2) pa_nil he2) he) hn hdb he hpl) fun σ H Q h => by
  obtain ⟨M, s, d, s', rl, hf, k⟩ := h
  obtain ⟨d1, h1, h3⟩ := dUn_some hf
  refine ⟨M, s, d1, s', rl, h1, fun v H1 k1 r1 t1 => ?_⟩
  unfold gIsE at h3
  split at h3
  · split at h3
    · rename_i c hc
      cases h3
      obtain ⟨a, rfl, ha⟩ := t1.excAt
      exact ⟨a, _, .ref (He.ga X.K C), _, _, rfl, ha, Fx.cls c hc, .own _, Fx.kit c hc C hC, k _ H1 k1 r1 (.bl _)⟩
    · cases h3
  · cases h3
theorem disV {x C : Str} {p p2 : Pos} (Fx : ExF X.K X.mg nm ts) (hg : Gl X x) (hm : X.mg x = none) (hv : bootBuiltins x = some (.builtin "isinstance")) (hg2 : Gl X C) (hm2 : X.mg C = none) (hv2 : bootBuiltins C = some (.type "ValueError")) (ha : PE X e (lft X.K Z fa)) (hn : x ≠ "__name__" := by decide) (hn2 : C ≠ "__name__" := by decide) (hdb : (x == ("__debug__" : Str)) = false := by decide) (hdb2 : (C == ("__debug__" : Str)) = false := by decide)
    (he : starEach [e, .Name C p2] X.env = (false, eval e X.env) :: starEach [.Name C p2] X.env := by rfl) (he2 : starEach [.Name C p2] X.env = (false, eval (.Name C p2) X.env) :: starEach [] X.env := by rfl) (hpl : (backTo pos (starEach [.Name C p2] X.env)).any (·.1) = false := by rfl) :
    PE X (.Call (.Name x p) [e, .Name C p2] [] pos) (lft X.K Z (dUn (gIsEV nm) fa)) := PEimp (pe_callB call_isX hg hm hv (pa_cons ha (pa_cons (pe_bltn (v := .ty "ValueError") hg2 hm2 hv2 rfl hn2 hdb2) pa_nil he2) he) hn hdb he hpl) fun σ H Q h => by
  obtain ⟨M, s, d, s', rl, hf, k⟩ := h
  obtain ⟨d1, h1, h3⟩ := dUn_some hf
  refine ⟨M, s, d1, s', rl, h1, fun v H1 k1 r1 t1 => ?_⟩
  unfold gIsEV at h3
  split at h3
  · split at h3
    · rename_i c hc
      cases h3
      obtain ⟨a, rfl, ha⟩ := t1.excAt
      exact ⟨a, _, .ty "ValueError", _, _, rfl, ha, Fx.cls c hc, .ty _, Fx.val c hc, k _ H1 k1 r1 (.bl _)⟩
    · cases h3
  · cases h3
/-- the classes written in a tuple -/
structure ClsArgs (X : Cx) (es : List Expr) (Cs : List Str) : Prop where
  pa : PA X es (fun σ H Q => Q (Cs.map fun C => V.ref (He.ga X.K C)) H)
theorem clsNil : ClsArgs X [] [] := ⟨pa_nil⟩
theorem clsCons {C : Str} {Cs : List Str} {p2 : Pos} (hm : X.mg C = some (.ref (He.ga X.K C))) (hg2 : Gl X C) (r : ClsArgs X es Cs) (hdb2 : (C == ("__debug__" : Str)) = false := by decide) (hs : starEach (.Name C p2 :: es) X.env = (false, eval (.Name C p2) X.env) :: starEach es X.env := by rfl) : ClsArgs X (.Name C p2 :: es) (C :: Cs) :=
  ⟨PAimp (pa_cons (pe_glob (v := .ref (He.ga X.K C)) hg2 hm rfl hdb2) r.pa hs) fun _ _ _ h => h⟩
theorem kitAny_of {K : PySem.W.Frag} {t : Value} {c : Str} : ∀ {Cs : List Str}, (∀ C ∈ Cs, PySem.W.kitOne K t (.ref (He.ga K C)) = some (decide (c = C))) → PySem.W.kitAny K t (Cs.map fun C => .ref (He.ga K C)) = some (Cs.any fun C => decide (c = C))
  | [], _ => rfl
  | C :: r, h => by
    have e := h C List.mem_cons_self
    have ih := kitAny_of (Cs := r) fun D hD => h D (List.mem_cons_of_mem _ hD)
    rw [List.map_cons, List.any_cons]
    unfold PySem.W.kitAny
    rw [e]
    by_cases q : c = C
    · simp [q]
    · simp only [q, decide_false, Bool.false_or]
      exact ih
theorem clsPaired {K : PySem.W.Frag} : ∀ Cs : List Str, Paired ClsV (Cs.map fun C => V.ref (He.ga K C)) (Cs.map fun C => Value.ref (He.ga K C))
  | [] => .nil
  | C :: r => .cons (.own _) (clsPaired r)
theorem disXs {x : Str} {Cs : List Str} {p p2 : Pos} {x1} (Fx : ExF X.K X.mg nm ts) (hC : ∀ C ∈ Cs, C ∈ ts) (few : Cs.length ≤ 1000) (hg : Gl X x) (hm : X.mg x = none) (hv : bootBuiltins x = some (.builtin "isinstance")) (hcs : ClsArgs X es Cs) (ha : PE X e (lft X.K Z fa)) (hn : x ≠ "__name__" := by decide) (hdb : (x == ("__debug__" : Str)) = false := by decide)
    (he : starEach [e, .Tuple es x1 p2] X.env = (false, eval e X.env) :: starEach [.Tuple es x1 p2] X.env := by rfl) (he2 : starEach [.Tuple es x1 p2] X.env = (false, eval (.Tuple es x1 p2) X.env) :: starEach [] X.env := by rfl) (hpl : (backTo pos (starEach [.Tuple es x1 p2] X.env)).any (·.1) = false := by rfl) :
    PE X (.Call (.Name x p) [e, .Tuple es x1 p2] [] pos) (lft X.K Z (dUn (gIsEs nm Cs) fa)) := PEimp (pe_callB call_isXs hg hm hv (pa_cons ha (pa_cons (pe_tup hcs.pa) pa_nil he2) he) hn hdb he hpl) fun σ H Q h => by
  obtain ⟨M, s, d, s', rl, hf, k⟩ := h
  obtain ⟨d1, h1, h3⟩ := dUn_some hf
  refine ⟨M, s, d1, s', rl, h1, fun v H1 k1 r1 t1 => ⟨by rw [List.length_map]; exact Nat.le_trans few (by decide), fun tp new => ?_⟩⟩
  unfold gIsEs at h3
  split at h3
  · split at h3
    · rename_i c hc
      cases h3
      obtain ⟨a, rfl, ha⟩ := t1.excAt
      refine ⟨a, _, tp, _, _, _, rfl, grow_new new _ _ ha, Fx.cls c hc, upd_same, clsPaired Cs, kitAny_of fun C hC' => Fx.kit c hc C (hC C hC'), ?_⟩
      exact k _ _ (k1.trans (kq_grow (grow_new new))) (r1.grow (grow_new new)) (.bl _)
    · cases h3
  · cases h3
end
/-! #### list.count, list.index of texts, numbers, truths -/
def gCount : PyData → PyData → Option PyData
  | .list ds, d => if ds.all scalD = true ∧ scalD d = true then some (.int (ds.countP fun z => PyData.eqv z d : Nat)) else none
  | _, _ => none
def gIndex : PyData → PyData → Option PyData
  | .list ds, d => if ds.all scalD = true ∧ scalD d = true then (ds.findIdx? fun z => PyData.eqv z d).map fun j => .int (j : Nat) else none
  | _, _ => none
def rCountF (K : PySem.W.Frag) : V → List V → Hp → VK → Prop := fun x xs H Q => ∃ (a : Addr) (ys : List V) (y : V), x = V.ref a ∧ xs = [y] ∧ SqL K H a ys ∧ flatV y = true ∧ ys.all flatV = true ∧ Q (.int (ys.countP fun z => eqV z y : Nat)) H
theorem countP_eqU {x : V} : ∀ {xs : List V} {us : List Value}, Vals xs us → xs.all flatV = true → us.countP (eqU x) = xs.countP fun z => eqV z x
  | _, _, .nil, _ => rfl
  | y :: xs, u :: us, .cons r t, f => by
    rw [List.all_cons, Bool.and_eq_true] at f
    rw [List.countP_cons, List.countP_cons, eqU_of r f.1, countP_eqU t f.2]
theorem mt_countF {X : Cx} : MtR X "list.count" (rCountF X.K) := by
  intro pins s σ H x xs v us Q I rx rxs h
  obtain ⟨a, ys, y, rfl, rfl, hs, fy, fys, q⟩ := h
  cases rx
  obtain ⟨u, rfl, ru⟩ := rxs.one
  obtain ⟨its, rv, ⟨⟨cls, dd, data, sl⟩, n, ho, hc, hdn, hd⟩, hlen⟩ := I.list hs
  simp only at hc hd
  subst hc hd
  refine call_meets PySem.F.slot_list_count ⟨_, ho, rfl⟩ PySem.F.entry_list_count (PySem.F.args_list_count_2 _ _)
    (SeqAt.list_countAt a its.toArray n dd sl u (eqU y)) ⟨ho, fun u' hu' => mem_eqAt ru fy rv fys u' (by simpa using hu'), ?_⟩
  have ec : its.toArray.toList.countP (eqU y) = ys.countP fun z => eqV z y := countP_eqU rv fys
  refine ⟨.int (ys.countP fun z => eqV z y : Nat), H, I.tok _, ⟨s.toks, ?_⟩, q⟩
  rw [ec]
theorem countP_dt {K : PySem.W.Frag} {mu : Addr → Prop} {H : Hp} {y : V} {d : PyData} (t : Dt K mu H y d) (hd : scalD d = true) : ∀ {vs : List V} {ds : List PyData}, DtAll K mu H vs ds → ds.all scalD = true → (vs.countP fun z => eqV z y) = ds.countP fun z => PyData.eqv z d
  | _, _, .nil, _ => rfl
  | _, _, .cons u r, f => by
    rw [List.all_cons, Bool.and_eq_true] at f
    rw [List.countP_cons, List.countP_cons, scal_eq u t f.1 hd, countP_dt t hd r f.2]
section
variable {X : Cx} {Z : Par} {o e : Expr} {fo fe : DE} {name : Str} {apos cpos : Pos}
/-- o.m(e), o a list -/
theorem dmL {id : String} {r : V → List V → Hp → VK → Prop} {g : PyData → PyData → Option PyData} (slot : Slot "list" name id) (hty : typeOf (.builtin id) = pure (.type "method_descriptor")) (hm : MtR X id r) (isL : ∀ d1 d2 d, g d1 d2 = some d → ∃ ds, d1 = .list ds)
    (ok : ∀ (mu : Addr → Prop) (H : Hp) (x y : V) (d1 d2 d : PyData) (Q : VK), Dt X.K mu H x d1 → Dt X.K mu H y d2 → g d1 d2 = some d → (∀ v, Dt X.K mu H v d → Q v H) → r x [y] H Q) (ho : PE X o (lft X.K Z fo)) (ha : PE X e (lft X.K Z fe))
    (hbase : attributeBase o name X.env (eval o X.env) = eval o X.env := by rfl)
    (hfew : ((backTo cpos (starEach [e] X.env)).all (fun x => !x.1) && (backToKw cpos (keywordEach [] X.env)).all (fun x => x.1.isSome)
      && decide ([e].length + ([] : List Keyword).length + (if ([] : List Keyword).isEmpty then 0 else 1) < 30)) = true := by rfl)
    (hline : (apos.endLine == cpos.line) = true := by rfl) (hs : starEach [e] X.env = (false, eval e X.env) :: starEach [] X.env := by rfl) (hplain : (backTo cpos (starEach [] X.env)).any (·.1) = false := by rfl) :
    PE X (.Call (.Attribute o name apos) [e] [] cpos) (lft X.K Z (dOp g fo fe)) := PEimp (pe_bm PySem.F.plainAttrs_list slot hty hm ho (pa_cons ha pa_nil hs) hbase hfew hline hs hplain) fun σ H Q h => by
  obtain ⟨M, s, d, s', rl, hf, k⟩ := h
  obtain ⟨d1, s1, d2, h1, h2, h3⟩ := dOp_some hf
  obtain ⟨ds, rfl⟩ := isL _ _ _ h3
  refine ⟨M, s, _, s1, rl, h1, fun x H1 k1 r1 t1 => ?_⟩
  obtain ⟨a, xs, rfl, q1, q2⟩ := t1.list
  refine ⟨.inl ⟨rfl, xs, q1⟩, M, s1, d2, s', r1, h2, fun y H2 k2 r2 t2 => ?_⟩
  exact ok (Mu Z M) H2 (.ref a) y _ d2 d Q (t1.mono k2.kp) t2 h3 fun v t3 => k v H2 (k1.trans k2) r2 t3
theorem dcount (ho : PE X o (lft X.K Z fo)) (ha : PE X e (lft X.K Z fe)) (hbase : attributeBase o "count" X.env (eval o X.env) = eval o X.env := by rfl)
    (hfew : ((backTo cpos (starEach [e] X.env)).all (fun x => !x.1) && (backToKw cpos (keywordEach [] X.env)).all (fun x => x.1.isSome)
      && decide ([e].length + ([] : List Keyword).length + (if ([] : List Keyword).isEmpty then 0 else 1) < 30)) = true := by rfl)
    (hline : (apos.endLine == cpos.line) = true := by rfl) (hs : starEach [e] X.env = (false, eval e X.env) :: starEach [] X.env := by rfl) (hplain : (backTo cpos (starEach [] X.env)).any (·.1) = false := by rfl) :
    PE X (.Call (.Attribute o "count" apos) [e] [] cpos) (lft X.K Z (dOp gCount fo fe)) :=
  dmL PySem.F.slot_list_count PySem.F.type_list_count mt_countF (fun d1 d2 d h => by unfold gCount at h; split at h; exact ⟨_, rfl⟩; cases h) (fun mu H x y d1 d2 d Q t1 t2 h k => by
    unfold gCount at h
    split at h
    · split at h
      · rename_i c
        cases h
        obtain ⟨a, xs, rfl, q1, q2⟩ := t1.list
        refine ⟨a, xs, y, rfl, rfl, q1, scal_v t2 c.2, scal_vs q2 c.1, ?_⟩
        rw [countP_dt t2 c.2 q2 c.1]
        exact k _ (.int _)
      · cases h
    · cases h) ho ha hbase hfew hline hs hplain
theorem eqv_get {K : PySem.W.Frag} {mu : Addr → Prop} {H : Hp} {vs : List V} {ds : List PyData} (t : DtAll K mu H vs ds) (f : ds.all scalD = true) {m : Nat} {z : V} (h : vs[m]? = some z) : ∃ d, ds[m]? = some d ∧ Dt K mu H z d ∧ scalD d = true := by
  obtain ⟨d, e, u⟩ := t.getv h
  exact ⟨d, e, u, List.all_eq_true.mp f d (List.mem_of_getElem? e)⟩
theorem gIndex_some {d1 d2 d : PyData} (h : gIndex d1 d2 = some d) : ∃ (ds : List PyData) (j : Nat), d1 = .list ds ∧ ds.all scalD = true ∧ scalD d2 = true ∧ (ds.findIdx? fun z => PyData.eqv z d2) = some j ∧ d = .int (j : Nat) := by
  cases d1 with
  | list ds =>
    unfold gIndex at h
    dsimp only at h
    split at h
    · rename_i c
      simp only [Option.map_eq_some_iff] at h
      obtain ⟨j, h1, h2⟩ := h
      exact ⟨ds, j, rfl, c.1, c.2, h1, h2.symm⟩
    · cases h
  | _ => cases h
theorem dindex (ho : PE X o (lft X.K Z fo)) (ha : PE X e (lft X.K Z fe)) (hbase : attributeBase o "index" X.env (eval o X.env) = eval o X.env := by rfl)
    (hfew : ((backTo cpos (starEach [e] X.env)).all (fun x => !x.1) && (backToKw cpos (keywordEach [] X.env)).all (fun x => x.1.isSome)
      && decide ([e].length + ([] : List Keyword).length + (if ([] : List Keyword).isEmpty then 0 else 1) < 30)) = true := by rfl)
    (hline : (apos.endLine == cpos.line) = true := by rfl) (hs : starEach [e] X.env = (false, eval e X.env) :: starEach [] X.env := by rfl) (hplain : (backTo cpos (starEach [] X.env)).any (·.1) = false := by rfl) :
    PE X (.Call (.Attribute o "index" apos) [e] [] cpos) (lft X.K Z (dOp gIndex fo fe)) :=
  dmL PySem.F.slot_list_index PySem.F.type_list_index mt_index (fun d1 d2 d h => by unfold gIndex at h; split at h; exact ⟨_, rfl⟩; cases h) (fun mu H x y d1 d2 d Q t1 t2 h k => by
    obtain ⟨ds, j, rfl, c1, c2, h1, rfl⟩ := gIndex_some h
    obtain ⟨a, xs, rfl, q1, q2⟩ := t1.list
    have c : ds.all scalD = true ∧ scalD d2 = true := ⟨c1, c2⟩
    rw [List.findIdx?_eq_some_iff_getElem] at h1
    obtain ⟨hj, e1, e2⟩ := h1
    obtain ⟨z, g1, g2⟩ := q2.get (List.getElem?_eq_getElem hj)
    have sc : scalD ds[j] = true := List.all_eq_true.mp c.1 _ (List.getElem_mem hj)
    refine ⟨a, xs, y, j, z, rfl, rfl, q1, scal_v t2 c.2, scal_vs q2 c.1, g1, ?_, fun m z' hm hz => ?_, k _ (.int _)⟩
    · rw [scal_eq g2 t2 sc c.2]; exact e1
    · obtain ⟨d', f1, f2, f3⟩ := eqv_get q2 c.1 hz
      rw [scal_eq f2 t2 f3 c.2]
      obtain ⟨hm', rfl⟩ := List.getElem?_eq_some_iff.mp f1
      exact Bool.eq_false_iff.mpr (e2 m hm)) ho ha hbase hfew hline hs hplain
end
end Dl

/-! ### the def that tells which exception came; the law's end with a table of code objects -/
namespace Dl
open PySem PySem.Spec PyProof.Rows L2
theorem slAll_rest {K : PySem.W.Frag} {mu : Addr → Prop} {q : Option Addr} {H : Hp} : ∀ {σ : L2.St} {n : Nat}, σ.length = n → SlAll K mu q H σ (List.replicate n .no) []
  | [], 0, _ => .nil
  | x :: σ, n + 1, e => .no (slAll_rest (by simpa using e))
def caught : Option Str → PyData
  | none => .none
  | some c => excD c
/-- a body behind the try: its meaning at the slot of what was caught -/
def wordAt (n : Nat) (b : DS) (oc : Option Str) : Option Str := match b (.no :: .dat (caught oc) :: List.replicate n .no) with
  | some (.rt (.str w) _) => some w
  | _ => none
def wordOf (nm : List Str) (n : Nat) (b : DS) (oc : Option Str) : Option Str := match oc with
  | none => wordAt n b none
  | some c => if c ∈ nm then wordAt n b (some c) else none
theorem wordAt_some {n : Nat} {b : DS} {oc : Option Str} {w : Str} (h : wordAt n b oc = some w) : ∃ s', b (.no :: .dat (caught oc) :: List.replicate n .no) = some (.rt (.str w) s') := by
  unfold wordAt at h
  split at h
  · rename_i w' s' e
    cases h
    exact ⟨s', e⟩
  · cases h
theorem word_ready {K : PySem.W.Frag} {n : Nat} {b : DS} {oc : Option Str} {w : Str} (h : wordAt n b oc = some w) {σ : L2.St} {x v : Option V} {y : V} {H : Hp} {Q : VK} (len : σ.length = n) (t : ∀ mu : Addr → Prop, (∀ a, ¬ mu a) → Dt K mu H y (caught oc))
    (q : ∀ H'', (∀ a o, H a = some o → H'' a = some o) → Q (.str w) H'') (E : L2.St → Hp → Prop) : ∃ Z, lfS K Z b { nx := E, rt := Q } (x :: some y :: σ) H := by
  obtain ⟨s', e⟩ := wordAt_some h
  refine ⟨⟨H, none, fun _ => False⟩, [], _, _, ⟨fun a o z _ => z, fun _ z => (by cases z), fun _ z => z.elim, fun _ z => (by cases z), .no (.dat (t _ fun a z => ?_) (slAll_rest len))⟩, e, fun M σ' H' u k r tu => ?_⟩
  · rcases z with z | z | z
    · exact z
    · cases z
    · cases z
  · rw [tu.text]
    exact q H' fun a o z => r.base a o z fun w => by cases w
section
variable {X : Cx}
theorem word_gives {Ng more : List Str} {x a y n z q : Str} {sg : Scope} {g : Addr} {cdg : Value} {bg rest : List Stmt} {nm ts : List Str} {b : DS} {j : Nat} {py py2 p0 pa pa2 p1 p2 p3 np pn pos pos' : Pos}
    (hN : Ng = a :: y :: n :: more) (nd : Ng.Nodup) (Fx : ExF X.K X.mg nm ts) (hz : z = "AskError")
    (hbg : bg = .Assign [.Name y py] (.Constant .none j p0) pa :: .Try [.Expr (.Call (.Name a p1) [] [] p2) p3] [.ExceptHandler (some (.Name z np)) (some n) [.Assign [.Name y py2] (.Name n pn) pa2] pos'] [] [] pos :: rest)
    (ly : sg.names.lookup y = some .local) (ln : sg.names.lookup n = some .local) (la : Vis sg a) (gz : sg.names.lookup z = some .globalImplicit)
    (sw1 : ∀ (C : Cx), C.env.scope = sg → C.N = Ng → swapsWith (.Constant .none j p0) (some (.Name y py)) pa.line C.env = pure false) (sw2 : ∀ (C : Cx), C.env.scope = sg → swapsWith (.Name n pn) (some (.Name y py2)) pa2.line C.env = pure false) (sw3 : ∀ (C : Cx), C.env.scope = sg → swapsWith (.Call (.Name a p1) [] [] p2) none p3.line C.env = pure false)
    (dn1 : (n == ("__debug__" : Str)) = false) (dn2 : (n == ("__classdict__" : Str)) = false)
    (hrest : ∀ (f : Addr) (s : Shared) (H : Hp) (Z : Par), PSs (cxOf C8.CX0 X.prog X.w X.K X.mg X.base Ng x sg g cdg X.A X.stack s H C8.E0).nox rest (lfS X.K Z b)) :
    LamX.GivesTo X Ng x sg g cdg bg a q (TTw X.K nm (wordOf nm (more.length + 1) b)) := by
  intro f c' s H Q tl act hc h
  subst hbg hN hz
  have gl : Gl (cxOf C8.CX0 X.prog X.w X.K X.mg X.base (a :: y :: n :: more) x sg g cdg X.A X.stack s H C8.E0).nox "AskError" := gz
  refine ⟨_, pss_cons (ps_set (i := 1) nd rfl (.inl ly) pe_non (sw1 _ rfl rfl) (.inr ly)) (pss_cons (ps_try_keep (X := (cxOf C8.CX0 X.prog X.w X.K X.mg X.base (a :: y :: n :: more) x sg g cdg X.A X.stack s H C8.E0).nox) (i := 2) (j := 1) (c := .ref (He.ga X.K "AskError"))
      (tb := fun W D σ H => ∃ Ech : XK, (∀ cls d σ' H', Ech cls d H' → W cls d σ' H') ∧ σ[0]? = some (some (.ref f)) ∧ H c' = some (LamX.CodeO c' q) ∧ tl Ech H (fun _ H' => D.nx σ H'))
      rfl rfl rfl nd rfl (by exact ln) rfl (.inl ly) ⟨gl, by decide, .inl (Fx.at_ _ List.mem_cons_self)⟩ (fun W pl xe tk _ => ?_) (fun ae oe pl => pss_one (PSimp (ps_set (i := 1) nd rfl (.inl ly) (pe_var (i := 2) rfl (.inl ln) ?_ ?_) (sw2 _ rfl) (.inr ly)) fun D σ H h => ?_)) ?_)
      (u := fun D σ H => ∃ Z, lfS X.K Z b D σ H) ⟨fun pins s' σ H' D I ⟨Z, r⟩ => (hrest f s H Z).run pins s' σ H' D I r⟩), ?_⟩
  · refine pss_one ⟨fun pins s' σ H' D I h' => ?_⟩
    obtain ⟨Ech, hW, h1, h2, h3⟩ := h'
    exact (ps_expr (pos := p3) (act W pl xe Ech p1 p2 tk hW) (sw3 _ rfl)).run pins s' σ H' D I ⟨h1, h2, h3⟩
  · exact dn1
  · exact dn2
  · exact h
  · show 2 < (a :: y :: n :: more).length
    simp
  · refine ⟨fun cls d H' => ∃ c w, c ∈ nm ∧ cls = .ref (He.ga X.K c) ∧ d = none ∧ wordOf nm (more.length + 1) b (some c) = some w ∧ ∀ H'', (∀ a o, H' a = some o → H'' a = some o) → Q (.str w) H'', fun cls d σ' H' hE => ?_, rfl, hc, h _ _ (fun c w H' hc hw hq => ⟨c, w, hc, rfl, rfl, hw, hq⟩) (fun v w H' hw hq => ?_)⟩
    · obtain ⟨c, w, hcn, rfl, rfl, hw, hq⟩ := hE
      refine ⟨_, rfl, rfl, Fx.top c hcn, fun len ae na => ?_⟩
      have len : σ'.length = (a :: y :: n :: more).length := len
      match σ', len with
      | o0 :: o1 :: o2 :: r, len =>
        have len' : r.length = more.length := by simpa using len
        have hw' : wordAt (more.length + 1) b (some c) = some w := by
          have h2 : (if c ∈ nm then wordAt (more.length + 1) b (some c) else none) = some w := hw
          rw [if_pos hcn] at h2
          exact h2
        exact word_ready (v := none) (x := o0) (y := .ref ae) (σ := none :: r) hw' (by rw [List.length_cons, len']) (fun mu n => .exc upd_same (n ae)) (fun H'' g => hq H'' fun b o e => g b o (grow_new na b o e)) _
    · exact word_ready (v := none) (x := some (.ref f)) (y := .non) (σ := none :: List.replicate more.length none) hw (by simp) (fun mu n => .non) hq _
end
/-- x(lambda: f(..)), x the def that tells which exception came -/
theorem dword {X : Cx} {Z : Par} {ga : DA} {x a q : Str} {st : Stmt} {Ng : List Str} {nm : List Str} {wd : Option Str → Option Str} {m : List PyData → Option (Rx PyData)} {c P : Addr} {k : Nat} {ps0 : Arguments} {body : Expr} {scope : Scope} {p lpos pos : Pos}
    (F : Std X.K X.mg x st [a]) (Sg : FnScope Ng [a] (defScope st)) (hNg : Ng[0]? = some a) (hva : Vis (defScope st) a) (hG : ∀ (g : Addr) (cdv : Value), LamX.GivesTo X Ng x (defScope st) g cdv (defBody st) a (X.env.qual ++ "<lambda>") (TTw X.K nm wd))
    (TB : LamX.TabB X.base X.mg c P) (hcode : X.env.code = .ref c) (hZ : Z.p = some P) (hq : q = X.env.qual ++ "<lambda>") (hr : Room (k + 2) X.A) (hn : Nmd X.K X.mg nm) (in_ : ∀ c w, wd (some c) = some w → c ∈ nm) (hg : Gl X x)
    (L : LamX.LamS X.env.scope scope) (hbody : ∀ (A : Around) (outer : List Env) (s : Shared) (H : Hp) (E : XK) (f c' : Addr), Room k (A.deeper (LamX.lamEnv X scope s.heap.objs.size f c')) → PE (LamX.lamCx X A outer s H E scope f c') body (lftx X.K X.mg Z (fun cls d _ H => E cls d H) (xCall m ga)))
    (hdef : defaultsOf ps0 X.env = ([], []) := by rfl) (hbind : ∀ (q : Str) (cl : List (Str × Addr)) (pm cv ctv : Value), bindArgs (PySem.W.kla_fn "<lambda>" q ps0 body scope cl pm cv ctv) ⟨[], []⟩ = pure [] := by intro _ _ _ _ _; rfl)
    (hdb : (x == ("__debug__" : Str)) = false := by decide) (hd : (a == ("__debug__" : Str)) = false := by decide) (hcd : (a == ("__classdict__" : Str)) = false := by decide) :
    PE X (.Call (.Name x p) [.Lambda ps0 body scope lpos] [] pos) (lft X.K Z (dWord q wd m ga)) := by
  obtain ⟨g, fd, F, hm, hb⟩ := F
  obtain ⟨⟨oc, od, kV, doc, pm, an, cdv, ct, osl, e1, lk, hcd2⟩, kp⟩ := F
  subst e1 hq
  exact PEimp (pe_word hg hm kp lk hcd2 hb Sg hNg hva (hG g cdv) TB hcode hr L hdef hbind hbody hdb hd hcd) fun _ _ _ h => lift_word hZ hn in_ h
/-! #### the law's end -/
def startT (N : List Str) (q : Str) (ds : List PyData) : Sl := ds.map SV.dat ++ (List.replicate (N.length - 1 - ds.length) .no ++ [.tab q])
def fnT (N : List Str) (q : Str) (n : Nat) (b : DS) : List PyData → Option PyData := fun ds => if ds.length = n then outP (b (startT N q ds)) else none
section
variable {P : Program} {w : World} {K : PySem.W.Frag} {mg mb : Str → Option Value}
theorem slAll_tab {mu : Addr → Prop} {q : Str} {H : Hp} {T : Addr} (h : H T = some (.tbl #[])) : ∀ n : Nat, SlAll K mu (some T) H (List.replicate (n + 1) none) (List.replicate n .no ++ [.tab q]) []
  | 0 => .tab rfl h trivial (fun pos cv z => by
      have z' : codeAmong pos [] = some cv := z
      simp [codeAmong] at z') .nil
  | n + 1 => .no (slAll_tab h n)
theorem law_hereT {x p q : Str} {st : Stmt} {fa a c T : Addr} {fd : FuncData} {N : List Str} {k : Nat} {b : DS} {s₁ : Shared} {vs : List Value} {ns : List Int}
    (KX : K.In s₁.heap) (hns : s₁.heap.Ns mainGlobals mg) (hbl : s₁.heap.Ns builtinsNs mb) (hbb : ∀ y : Str, y ≠ "__name__" → mb y = bootBuiltins y) (hlim : s₁.heap.NoLimit) (hmo : ∃ mm, s₁.heap.Ns sysModules mm) (hg : s₁.gens = #[])
    (ha : s₁.heap.get? a = some { cls := .type "list", data := .seq vs.toArray }) (hi : IntsAre vs ns) (few : ns.length ≤ sizeLine) (room : Room (k + 1) callerA) (F : Fun K x x st fa fd) (S : FnScope N [p] (defScope st)) (bt : ∀ (s : Shared) (u : Value), BindsTo s fd ⟨[u], []⟩ [(p, u)])
    (hT : s₁.heap.get? T = some { cls := .none, data := .fields #[] }) (nT : K.lookup T = none) (C : PySem.W.CodeHd s₁.heap c T) (hcd : fd.code = .ref c)
    (hbm : ∃ (bm : Addr) (ob : Obj), mg "__builtins__" = some (.ref bm) ∧ bm ≠ builtinsNs ∧ s₁.heap.get? bm = some ob ∧ ob.cls = .type "module" ∧ ob.dict = some builtinsNs ∧ ob.data = .plain) (len2 : 2 ≤ N.length)
    (body : ∀ (base : Heap) (s : Shared) (H : Hp) (Z : Par), Mod K mg base → Room k (callerA.deeper (envOfC x (defScope st) s.heap.objs.size fa (.ref c))) → CG (cxOf CX0 P w K mg base N x (defScope st) fa (.ref c) callerA [] s H E0).nox → LamX.TabB base mg c T → Z.p = some T →
      PSs (cxOf CX0 P w K mg base N x (defScope st) fa (.ref c) callerA [] s H E0).nox (defBody st) (lfS K Z b))
    (true_ : fnT N q 1 b [.dict [(.none, .list (ns.map .int))]] = some (.bool true)) :
    codeAny (model P w) callerA (.call (.ref fa) ⟨[.ref a], []⟩) (fun r s' => r = .ok (.ret (.bool true)) ∧ OldK s₁.heap s'.heap ∧ s'.os = s₁.os ∧ AllBare s'.gens) s₁ := by
  obtain ⟨G, gok, hG, here⟩ := script_in (P := P) (w := w) KX ha hi few
  have aT : T ≠ a := fun e => by
    rw [e, ha] at hT
    cases hT
  have gT : G T = none := by
    cases z : G T with
    | none => rfl
    | some u => exact absurd (hG T u z).1 aT
  let H : Hp := upd G T (.tbl #[])
  have atT : H T = some (.tbl #[]) := upd_same
  have elseT : ∀ b, b ≠ T → H b = G b := fun b h => upd_ne h
  have fromG : ∀ b u, G b = some u → H b = some u := grow_new gT
  have hH : ∀ b u, H b = some u → b = T ∧ u = .tbl #[] ∨ (b = a ∧ K.lookup a = none ∧ ∃ o u', u = .frz o u') := fun b u z => by
    by_cases e : b = T
    · subst e
      rw [atT] at z
      cases z
      exact .inl ⟨rfl, rfl⟩
    · rw [elseT b e] at z
      obtain ⟨rfl, h2⟩ := hG b u z
      exact .inr ⟨rfl, h2⟩
  have hok : HOk P w H s₁.heap := fun b u z => by
    rcases hH b u z with ⟨rfl, rfl⟩ | ⟨rfl, _, o, u', rfl⟩
    · exact hT
    · rw [elseT b (fun e => aT e.symm)] at z
      exact (gok b _ z).stay (fun _ _ _ r => r) (fun c r => fromG _ _ r) fun c xs r => fromG _ _ r
  have free_of : ∀ {b : Addr} {o : Obj}, s₁.heap.get? b = some o → (∀ vs n, o.data ≠ .seq vs n) → o.data ≠ .fields #[] → H b = none := fun {b o} e h1 h2 => by
    cases z : H b with
    | none => rfl
    | some u =>
      rcases hH b u z with ⟨rfl, _⟩ | ⟨rfl, _⟩
      · rw [hT] at e
        cases e
        exact absurd rfl h2
      · rw [ha] at e
        cases e
        exact absurd rfl (h1 _ _)
  have dict_free : ∀ {b : Addr} {o : Obj} {es : Array DictEntry} {n : Nat}, s₁.heap.get? b = some o → o.data = .dict es n → H b = none := fun {b o es n} e d => free_of e (fun _ _ z => by rw [d] at z; cases z) (fun z => by rw [d] at z; cases z)
  have ns_in : ∀ {b : Addr} {m : Str → Option Value}, s₁.heap.Ns b m → (hidT s₁.heap H).Ns b m := fun ⟨o, es, n, e, d, r⟩ => ⟨o, es, n, hidT_get e (dict_free e d), d, r⟩
  have mod : Mod K mg (hidT s₁.heap H) := {
    kin := fun b o e => hidT_get (KX b o e) (by
      cases z : H b with
      | none => rfl
      | some u =>
        rcases hH b u z with ⟨rfl, _⟩ | ⟨rfl, q, _⟩
        · rw [nT] at e; cases e
        · rw [q] at e; cases e)
    glob := ns_in hns
    blt := ⟨mb, ns_in hbl, hbb⟩
    nolimit := let ⟨mc, q1, q2⟩ := hlim; ⟨mc, ns_in q1, q2⟩ }
  have TB : LamX.TabB (hidT s₁.heap H) mg c T := by
    refine ⟨?_, ?_, fun z => ?_⟩
    · obtain ⟨o, us, file, tf, flags, tg, inF, text, tt, e1, r1, r2, r3, r4, r5, r6, r7, r8, hne⟩ := C
      refine ⟨o, us, file, tf, flags, tg, inF, text, tt, hidT_get e1 (free_of e1 (fun vs n z => ?_) fun z => ?_), r1, r2, r3, r4, r5, r6, r7, r8, hne⟩
      · rw [r2] at z; cases z
      · rw [r2] at z
        cases z
        simp at r3
    · obtain ⟨bm, ob, b1, b2, b3, b4, b5, b6⟩ := hbm
      refine ⟨bm, ob, b1, b2, fun e => ?_, fun e => ?_, hidT_get b3 (free_of b3 (fun vs n z => ?_) fun z => ?_), b4, b5, b6⟩
      · obtain ⟨o, es, n, e3, d, _⟩ := hns
        rw [e, e3] at b3
        cases b3
        rw [d] at b6
        cases b6
      · rw [e, hT] at b3
        cases b3
        cases b6
      · rw [b6] at z; cases z
      · rw [b6] at z; cases z
    · obtain ⟨o, es, n, e, d, _⟩ := hns
      rw [z, hT] at e
      cases e
      cases d
  have e0 : Env0 P w K mg (hidT s₁.heap H) callerA [] s₁ H := ⟨rfl, mod, fun _ _ e => of_hidT e, by rw [hidT_size]; exact Nat.le_refl _, trivial, fun c hc => (by cases hc), hok, .of_eq hg⟩
  have sys : ∃ o es n, (hidT s₁.heap H).get? sysModules = some o ∧ o.data = .dict es n := by
    obtain ⟨mm, o, es, n, e, d, _⟩ := hmo
    exact ⟨o, es, n, hidT_get e (dict_free e d), d⟩
  let Z : Par := ⟨H, some T, fun _ => False⟩
  have only : ∀ b, Mu Z [] b → b = T := fun b z => by
    rcases z with z | z | z
    · exact z.elim
    · exact (Option.some.inj z).symm
    · cases z
  have td : Dt K (Mu Z []) H (.ref a) (.dict [(.none, .list (ns.map .int))]) := .scr (here.imp (fun z => ⟨z.imp (fun z => fromG _ _ z) fun ⟨o, z⟩ => ⟨o, fromG _ _ z⟩, fun z => aT (only a z).symm⟩) id) (dtAll_ints ns)
  have rel : Rel K Z [] (L2.start N [.ref a]) H (startT N q [.dict [(.none, .list (ns.map .int))]]) := by
    refine ⟨fun _ _ e _ => e, fun _ z => (by cases z), fun _ z => z.elim, fun b z => ⟨_, (Option.some.inj z) ▸ atT⟩, ?_⟩
    obtain ⟨n, hn⟩ : ∃ n, N.length = n + 2 := ⟨N.length - 2, by omega⟩
    have e1 : L2.start N [.ref a] = some (.ref a) :: List.replicate (n + 1) none := by
      unfold L2.start
      rw [List.length_singleton, hn]
      rfl
    have e2 : startT N q [.dict [(.none, .list (ns.map .int))]] = .dat (.dict [(.none, .list (ns.map .int))]) :: (List.replicate n .no ++ [.tab q]) := by
      unfold startT
      rw [List.length_singleton, hn]
      rfl
    rw [e1, e2]
    exact .dat td (slAll_tab atT n)
  have ready : lfS K Z b { nx := fun _ H' => False, rt := fun v _ => v = .bl true } (L2.start N [.ref a]) H := by
    have tr : outP (b (startT N q [.dict [(.none, .list (ns.map .int))]])) = some (.bool true) := by
      unfold fnT at true_
      rw [if_pos (show [PyData.dict [(PyData.none, PyData.list (ns.map PyData.int))]].length = 1 from rfl)] at true_
      exact true_
    clear true_
    unfold outP at tr
    split at tr
    · rename_i d1 s1 hq
      cases tr
      exact ⟨_, _, _, rel, hq, fun M σ H1 v k1 r1 t1 => t1.bool⟩
    · cases tr
    · cases tr
  obtain ⟨⟨oc, od, kV, doc, pm, an, cdv, ct, osl, e1, lk, hcdv⟩, kp⟩ := F
  subst e1
  have ecd : cdv = .ref c := hcd
  subst ecd
  have slots : ∀ y ∈ [(p, Value.ref a)], (defScope st).names.lookup y.1 = some .local ∨ ((defScope st).names.lookup y.1 = some .cell ∧ ((cellsFrom (s₁.heap.objs.size + 1) (defScope st).names []).lookup y.1).isSome = true) := fun y hy => by
    obtain rfl := List.mem_singleton.mp hy
    exact (S.par p (List.mem_singleton.mpr rfl)).imp id fun z => ⟨z, PySem.W.cellsFrom_some _ _ _ (.inl z)⟩
  have ran : codeAny (model P w) callerA (.call (.ref fa) ⟨[.ref a], []⟩) (CR CX0 [] P w H s₁ (fun v _ => v = .bl true) E0) s₁ := by
    refine codeAny_call_function room.depth (KX _ _ lk) rfl S.co S.gen rfl (PySem.W.codeRec_of KX hcdv) (bt s₁ (.ref a) _ _ _ _ (wpAny_newFunctionEnv_cells S.kind slots fun env he t0 io => ?_))
    cases he
    refine ⟨hlim.keeps io.toInCall.keep, codeAny_func ?_⟩
    have begun : Inv (cxOf CX0 P w K mg (hidT s₁.heap H) N x (defScope st) fa (.ref c) callerA [] s₁ H E0) [] (L2.start N [.ref a]) H t0 := inv_start S room.hd e0 rfl (.cons rfl .nil) io
    refine wpAny_mono ((body _ s₁ H Z mod (room.deeper _) ⟨rfl, by show 4 + 3 + 100 < 9900; omega, sys⟩ TB rfl).nox.run [] t0 _ H _ begun ready) (fun fl t1 done => ?_) fun _ _ z => z
    match fl, done with
    | .ret u, ⟨v, σ', H', J, rv, q⟩ => exact ⟨v, H', J.os, J.bare, J.base, J.hok, rv, q⟩
    | .next, ⟨_, _, _, z⟩ => exact z.elim
    | .brk, ⟨_, _, _, z⟩ => exact z.elim
    | .cont, ⟨_, _, _, z⟩ => exact z.elim
  refine codeAny_mono ran fun r t1 done => ?_
  match r, done with
  | .ok (.ret u), ⟨v, H', os, bare, un, ok', rv, q⟩ =>
    subst q
    obtain rfl : u = .bool true := rv
    obtain ⟨more, hm⟩ := un.tbls T #[] atT
    rw [Array.empty_append] at hm
    have grown : t1.heap.get? T = some { cls := .none, data := .fields more } := ok' T _ hm
    have same : ∀ b o, b ≠ T → s₁.heap.get? b = some o → t1.heap.get? b = some o := fun b o nb e => by
      cases z : H b with
      | none => exact un.keep b o e z (by simp [frs]) List.not_mem_nil
      | some u =>
        rcases hH b u z with ⟨rfl, _⟩ | ⟨rfl, _, o', u', rfl⟩
        · exact absurd rfl nb
        · have now := (ok' b _ (un.frzs b o' u' z)).1
          have was := (hok b _ z).1
          rw [was] at e
          cases e
          exact now
    refine ⟨rfl, ⟨fun b o e => ?_, fun b o e => ?_⟩, os, bare⟩
    · by_cases hb : b = T
      · subst hb
        rw [hT] at e
        cases e
        exact .inr (.inl ⟨(C.tab hT).isCodeTable, rfl, #[], more, rfl, by rw [Array.empty_append]; exact grown⟩)
      · exact .inl (same b o hb e)
    · by_cases hb : b = T
      · exact ⟨_, by rw [hb]; exact grown⟩
      · exact ⟨o, same b o hb e⟩
  | .ok .next, z => exact z.elim
  | .ok .brk, z => exact z.elim
  | .ok .cont, z => exact z.elim
  | .error e, z => exact (show False from z).elim
end
/-! #### the head -/
def lawD : He.Defn := ("law", none)
def exB (cs : List (Str × PyData)) (nm ts : List Str) (K : PySem.W.Frag) : Bool := cs.all (gcB K) && exfB nm ts K
/-- the law walked: as walk_data, the law making lambdas -/
theorem walk_dataT {l : PySem.W.OpenLaw} {n k : Nat} {q : Program} {loose : List Str} {XP : (Str → Option Value) → Heap → Prop} {d : DefRec} {fa : List He.Fa} {fn : List He.DefD} {cs : List (Str × PyData)} {nm ts : List Str} {m : Nat} {p qq : Str} {st : Stmt} {N : List Str} {b : DS}
    (most : l.most = some n) (few : n ≤ sizeLine) (hdf : d.params.defaults = []) (name : d.name = "law") (alone : importsNone q = true) (room : Room (k + 1) callerA) (S : FnScope N [p] (defScope st)) (len2 : 2 ≤ N.length)
    (F : ∀ (w : World) (mg : Str → Option Value) (h : Heap) (K : PySem.W.Frag), K.In h → h.Ns mainGlobals mg → He.SaysD fa fn K → cs.all (gcB K) = true → ExF K mg nm ts → ∃ fd : FuncData, mg "law" = some (.ref (He.fAd K lawD)) ∧ Fun K "law" "law" st (He.fAd K lawD) fd ∧ (∀ (s : Shared) (u : Value), BindsTo s fd ⟨[u], []⟩ [(p, u)]) ∧
      ∀ (base : Heap) (c T : Addr) (s : Shared) (H : Hp) (Z : Par), Mod K mg base → Room k (callerA.deeper (envOfC "law" (defScope st) s.heap.objs.size (He.fAd K lawD) (.ref c))) → CG (cxOf CX0 l.prog w K mg base N "law" (defScope st) (He.fAd K lawD) (.ref c) callerA [] s H E0).nox → LamX.TabB base mg c T → Z.p = some T →
        PSs (cxOf CX0 l.prog w K mg base N "law" (defScope st) (He.fAd K lawD) (.ref c) callerA [] s H E0).nox (defBody st) (lfS K Z b))
    (T : ∀ ns : List Int, ns.length ≤ n → fnT N qq 1 b [.dict [(.none, .list (ns.map .int))]] = some (.bool true)) :
    PySem.W.WalkO q loose XP (He.hookX m fa fn [] [lawD] (exB cs nm ts)).says l.row.toRowW d [] (fun f vs => PySem.call f vs) := by
  refine Att.attach_call most hdf fun w s₀ s₁ mg mb f o pm cd doc a vs ns G Y _ _ _ hmg hobj hints hlen hg => ?_
  obtain ⟨K, X, Sy⟩ := Y
  have more := Sy.more
  unfold exB at more
  rw [Bool.and_eq_true] at more
  obtain ⟨fd, e, Fn, bt, body⟩ := F w mg _ K X G.T.g Sy.t.d more.1 (exF_of X G.T.g more.2)
  rw [name] at hmg
  obtain rfl : f = He.fAd K lawD := Value.ref.inj (Option.some.inj (hmg.symm.trans e))
  obtain ⟨mm, sees, _⟩ := (G.T.seer alone).mods
  obtain ⟨c, hc⟩ : ∃ c, fd.code = .ref c := by
    obtain ⟨⟨oc, od, kV, doc, pm, an, cdv, ct, osl, e1, lk, hcdv⟩, kp⟩ := Fn
    subst e1
    exact He.codeIn_ref hcdv
  have e2 : He.codeOf K lawD = c := by
    obtain ⟨⟨oc, od, kV, doc, pm, an, cdv, ct, osl, e1, lk, hcdv⟩, kp⟩ := Fn
    exact He.codeOf_eq lk hc
  have in1 : lawD ∈ [lawD] := List.mem_singleton.mpr rfl
  have hd := Sy.hd lawD in1
  have e3 : (He.cT K lawD).1 = c := e2
  rw [e3] at hd
  exact law_hereT X G.T.g G.T.b G.T.builtins G.T.nolimit ⟨mm, sees⟩ hg hobj hints (Nat.le_trans hlen few) room Fn S bt (Sy.empty lawD in1) (Sy.out lawD in1) (PySem.W.codeHd_of_K X hd) hc G.T.bmain len2 (fun base s H Z M r cg tb hz => body base c _ s H Z M r cg tb hz) (T ns hlen)
end Dl

/-! ### texts cut and joined, f-strings, starred displays, a list's own places exchanged -/
namespace Dl
open PySem PySem.Spec PyProof.Rows L2
section
variable {X : Cx} {Z : Par} {M : List Addr} {K : PySem.W.Frag} {o a b e : Expr} {es : List Expr} {pos : Pos} {fo fa fb fe : DE} {ga : DA}
theorem Kq.none {M' : List Addr} {H H' : Hp} {mu : Addr → Prop} (k : Kq Z M H M' H') (hm : ∀ a, Mu Z M a → ∃ o, H' a = some o) {p : Addr} (h : H' p = none) : H p = none := by
  cases q : H p with
  | none => rfl
  | some o =>
    by_cases m : Mu Z M p
    · obtain ⟨u, e⟩ := hm p m
      rw [h] at e; cases e
    · have := (k.kp p o q m).1
      rw [h] at this; cases this
/-- x.split(y), a new list -/
def gSplit : PyData → PyData → Option (List PyData)
  | .str a, .str b => if (b.length == 0) = false ∧ a.length + 2 ≤ sizeLine then some ((Txt.split a b).map .str) else none
  | _, _ => none
theorem gSplit_some {d e : PyData} {ds : List PyData} (h : gSplit d e = some ds) : ∃ a b, d = .str a ∧ e = .str b ∧ (b.length == 0) = false ∧ a.length + 2 ≤ sizeLine ∧ ds = (Txt.split a b).map .str := by
  unfold gSplit at h
  split at h
  · split at h
    · rename_i c
      cases h
      exact ⟨_, _, rfl, rfl, c.1, c.2, rfl⟩
    · cases h
  · cases h
def fSplit (fo fe : DE) : DF := fun s => (fo s).bind fun p => (fe p.2).bind fun q => (gSplit p.1 q.1).map fun ds => (ds, q.2)
theorem fsplit {apos : Pos} (ho : PE X o (lft X.K Z fo)) (he : PE X e (lft X.K Z fe)) (hs : starEach [e] X.env = [(false, eval e X.env)] := by rfl) (hbase : attributeBase o "split" X.env (eval o X.env) = eval o X.env := by rfl) (hline : (apos.endLine == pos.line) = true := by rfl) :
    PE X (.Call (.Attribute o "split" apos) [e] [] pos) (lfF X.K Z (fSplit fo fe)) := PEimp (pe_split ho he hs hbase hline) fun σ H Q h => by
  obtain ⟨M, s, ds, s', rl, hf, k⟩ := h
  unfold fSplit at hf
  simp only [Option.bind_eq_some_iff, Option.map_eq_some_iff] at hf
  obtain ⟨⟨d1, s1⟩, h1, ⟨d2, s2⟩, h2, ds', h3, h4⟩ := hf
  cases h4
  obtain ⟨a, b, e1, e2, c1, c2, rfl⟩ := gSplit_some h3
  have e1' : d1 = .str a := e1
  have e2' : d2 = .str b := e2
  subst e1' e2'
  refine ⟨M, s, .str a, s1, rl, h1, fun v H1 k1 r1 t1 => ⟨⟨a, t1.text⟩, M, s1, .str b, _, r1, h2, fun w H2 k2 r2 t2 => ⟨a, b, t1.text, by rw [t2.text], c1, c2, fun p hp => ?_⟩⟩⟩
  have kk := k1.trans k2
  exact k p _ _ (Kq.none (mu := fun _ => True) kk r2.muT hp) upd_same (kk.trans (kq_grow (grow_new hp))) (r2.addNew hp _) ((dtAll_texts _).mono (kp_addNew hp _))
/-- x.join(ys), ys a list or a tuple of texts -/
def textsD : List PyData → Option (List Str)
  | [] => some []
  | .str x :: r => (textsD r).map (x :: ·)
  | _ :: _ => none
theorem textsD_map : ∀ {ds : List PyData} {xs : List Str}, textsD ds = some xs → ds = xs.map .str
  | [], xs, h => by cases h; rfl
  | d :: r, xs, h => by
    unfold textsD at h
    split at h
    · cases h; simp_all
    · rename_i b r' e
      simp only [Option.map_eq_some_iff] at h
      obtain ⟨bs', h1, h2⟩ := h
      injection e with e1 e2
      subst e1 e2 h2
      rw [List.map_cons, ← textsD_map h1]
    · cases h
theorem textsD_of : ∀ xs : List Str, textsD (xs.map .str) = some xs
  | [] => rfl
  | x :: r => by rw [List.map_cons, textsD, textsD_of r]; rfl
def joinD (a : Str) (ds : List PyData) : Option PyData := (textsD ds).bind fun ys => if (ys.map (·.length)).sum + ys.length * a.length ≤ 16777216 then some (.str (Txt.join a ys)) else none
theorem joinD_some {a : Str} {ds : List PyData} {d : PyData} (h : joinD a ds = some d) : ∃ ys : List Str, ds = ys.map .str ∧ (ys.map (·.length)).sum + ys.length * a.length ≤ 16777216 ∧ d = .str (Txt.join a ys) := by
  unfold joinD at h
  simp only [Option.bind_eq_some_iff] at h
  obtain ⟨ys, h1, h2⟩ := h
  split at h2
  · cases h2
    exact ⟨ys, textsD_map h1, by assumption, rfl⟩
  · cases h2
def gJoin : PyData → PyData → Option PyData
  | .str a, .list ds => joinD a ds
  | .str a, .tuple ds => joinD a ds
  | _, _ => none
theorem djoin {apos : Pos} (ho : PE X o (lft X.K Z fo)) (he : PE X e (lft X.K Z fe)) (hs : starEach [e] X.env = [(false, eval e X.env)] := by rfl) (hbase : attributeBase o "join" X.env (eval o X.env) = eval o X.env := by rfl) (hline : (apos.endLine == pos.line) = true := by rfl) :
    PE X (.Call (.Attribute o "join" apos) [e] [] pos) (lft X.K Z (dOp gJoin fo fe)) := PEimp (pe_join ho he hs hbase hline) fun σ H Q h => by
  obtain ⟨M, s, d, s', rl, hf, k⟩ := h
  obtain ⟨d1, s1, d2, h1, h2, h3⟩ := dOp_some hf
  unfold gJoin at h3
  split at h3
  · obtain ⟨ys, rfl, c, rfl⟩ := joinD_some h3
    refine ⟨M, s, _, s1, rl, h1, fun v H1 k1 r1 t1 => ⟨⟨_, t1.text⟩, M, s1, _, _, r1, h2, fun w H2 k2 r2 t2 => ?_⟩⟩
    obtain ⟨p, xs, rfl, g1, g2⟩ := t2.list
    rw [g2.texts] at g1
    exact ⟨_, p, ys, t1.text, rfl, .inl g1, c, k _ H2 (k1.trans k2) r2 (.str _)⟩
  · obtain ⟨ys, rfl, c, rfl⟩ := joinD_some h3
    refine ⟨M, s, _, s1, rl, h1, fun v H1 k1 r1 t1 => ⟨⟨_, t1.text⟩, M, s1, _, _, r1, h2, fun w H2 k2 r2 t2 => ?_⟩⟩
    obtain ⟨p, xs, rfl, g1, g2⟩ := t2.tuple
    rw [g2.texts] at g1
    exact ⟨_, p, ys, t1.text, rfl, .inr g1, c, k _ H2 (k1.trans k2) r2 (.str _)⟩
  · cases h3
/-- .. of a name's own list -/
def dJoinC (fo : DE) (i : Nat) : DE := fun s => (fo s).bind fun p => (contents p.2 i).bind fun ds => match p.1 with
  | .str a => (joinD a ds).map fun d => (d, p.2)
  | _ => none
theorem djoinC (i : Nat) {apos : Pos} (ho : PE X o (lft X.K Z fo)) (he : PE X e (tVar i)) (hs : starEach [e] X.env = [(false, eval e X.env)] := by rfl) (hbase : attributeBase o "join" X.env (eval o X.env) = eval o X.env := by rfl) (hline : (apos.endLine == pos.line) = true := by rfl) :
    PE X (.Call (.Attribute o "join" apos) [e] [] pos) (lft X.K Z (dJoinC fo i)) := PEimp (pe_join ho he hs hbase hline) fun σ H Q h => by
  obtain ⟨M, s, d, s', rl, hf, k⟩ := h
  unfold dJoinC at hf
  simp only [Option.bind_eq_some_iff] at hf
  obtain ⟨⟨d1, s1⟩, h1, ds, h2, h3⟩ := hf
  dsimp only at h2 h3
  split at h3
  · simp only [Option.map_eq_some_iff] at h3
    obtain ⟨d2, h3, h4⟩ := h3
    cases h4
    obtain ⟨ys, rfl, c, rfl⟩ := joinD_some h3
    refine ⟨M, s, _, _, rl, h1, fun v H1 k1 r1 t1 => ⟨⟨_, t1.text⟩, ?_⟩⟩
    obtain ⟨p, xs, g1, g2, g3, _⟩ := r1.at h2
    rw [g3.texts] at g2
    exact ⟨.ref p, g1, _, p, ys, t1.text, rfl, .inl (.inl (.inl g2)), c, k _ H1 k1 r1 (.str _)⟩
  · cases h3
/-- len(x), x[a:b] of a name's own list -/
def dLenC (i : Nat) : DE := fun s => (contents s i).map fun ds => (.int ds.length, s)
theorem dlenC (i : Nat) {x : Str} {p : Pos} (hg : Gl X x) (hm : X.mg x = none) (hv : bootBuiltins x = some (.builtin "len")) (ha : PE X e (tVar i)) (hn : x ≠ "__name__" := by decide)
    (hdb : (x == ("__debug__" : Str)) = false := by decide) (he : starEach [e] X.env = (false, eval e X.env) :: starEach [] X.env := by rfl) (hpl : (backTo pos (starEach [] X.env)).any (·.1) = false := by rfl) : PE X (.Call (.Name x p) [e] [] pos) (lft X.K Z (dLenC i)) :=
  PEimp (pe_callB call_len hg hm hv (pa_cons ha pa_nil he) hn hdb he hpl) fun σ H Q h => by
    obtain ⟨M, s, d, s', rl, hf, k⟩ := h
    unfold dLenC at hf
    simp only [Option.map_eq_some_iff] at hf
    obtain ⟨ds, h1, h2⟩ := hf
    cases h2
    obtain ⟨p, xs, g1, g2, g3, _⟩ := rl.at h1
    exact ⟨.ref p, g1, _, _, rfl, .inl ⟨xs, .inl (.inl g2), rfl⟩, by rw [g3.len]; exact k _ H (Kq.refl _ _ _) rl (.int _)⟩
def dSlC (i : Nat) (lo hi : DO) : DE := fun s => (contents s i).bind fun _ => (lo s).bind fun q => (hi q.2).bind fun r => (contents r.2 i).map fun ds => (.list (cutD ds q.1 r.1), r.2)
theorem dslC (i : Nat) {lo hi : Option Expr} {flo fhi : DO} {p2 : Pos} (he : PE X e (tVar i)) (hl : PO X lo (lfO X.K Z flo)) (hu : PO X hi (lfO X.K Z fhi)) : PE X (.Subscript e (.Slice lo hi none p2) pos) (lft X.K Z (dSlC i flo fhi)) := PEimp (pe_slice sl_list he hl hu) fun σ H Q h => by
  obtain ⟨M, s, d, s', rl, hf, k⟩ := h
  unfold dSlC at hf
  simp only [Option.bind_eq_some_iff, Option.map_eq_some_iff] at hf
  obtain ⟨ds0, h0, ⟨o1, s2⟩, h2, ⟨o2, s3⟩, h3, ds, h4, h5⟩ := hf
  cases h5
  obtain ⟨p0, xs0, g1, _⟩ := rl.at h0
  refine ⟨.ref p0, g1, M, s, o1, s2, rl, h2, fun H2 k2 r2 => ⟨M, s2, o2, _, r2, h3, fun H3 k3 r3 => ?_⟩⟩
  obtain ⟨p1, xs, e1, e2, e3, _⟩ := r3.at h4
  rw [g1] at e1
  cases e1
  exact ⟨p0, xs, rfl, .inl (.inl e2), fun p hp => k _ _ ((k2.trans k3).trans (kq_grow (grow_new hp))) (r3.grow (grow_new hp)) (dt_newL r3.muT hp (cut_dt e3 _ _))⟩
/-- *e in a display -/
def aStar (f : DE) (g : DA) : DA := fun s => (f s).bind fun p => match p.1 with
  | .list ds => (g p.2).map fun q => (ds ++ q.1, q.2)
  | .tuple ds => (g p.2).map fun q => (ds ++ q.1, q.2)
  | _ => none
theorem dastar {p : Pos} (ha : PE X e (lft X.K Z fa)) (hb : PA X es (lfA X.K Z ga)) (hs : starEach (.Starred e p :: es) X.env = (true, eval e X.env) :: starEach es X.env := by rfl) : PA X (.Starred e p :: es) (lfA X.K Z (aStar fa ga)) := PAimp (StX.pa_star ha hb hs) fun σ H Q h => by
  obtain ⟨M, s, d, s', rl, hf, k⟩ := h
  unfold aStar at hf
  simp only [Option.bind_eq_some_iff] at hf
  obtain ⟨⟨d1, s1⟩, h1, h2⟩ := hf
  dsimp only at h2
  split at h2
  · simp only [Option.map_eq_some_iff] at h2
    obtain ⟨⟨r, s2⟩, h2, h3⟩ := h2
    cases h3
    refine ⟨M, s, _, s1, rl, h1, fun v H1 k1 r1 t1 => ?_⟩
    obtain ⟨p, xs, rfl, g1, g2⟩ := t1.list
    exact ⟨p, xs, rfl, .inr g1, M, s1, r, _, r1, h2, fun ys H2 k2 r2 t2 => k _ H2 (k1.trans k2) r2 ((g2.mono k2.kp).append t2)⟩
  · simp only [Option.map_eq_some_iff] at h2
    obtain ⟨⟨r, s2⟩, h2, h3⟩ := h2
    cases h3
    refine ⟨M, s, _, s1, rl, h1, fun v H1 k1 r1 t1 => ?_⟩
    obtain ⟨p, xs, rfl, g1, g2⟩ := t1.tuple
    exact ⟨p, xs, rfl, .inl g1, M, s1, r, _, r1, h2, fun ys H2 k2 r2 t2 => k _ H2 (k1.trans k2) r2 ((g2.mono k2.kp).append t2)⟩
  · cases h2
/-- f'..' -/
def gFmt : PyData → Option PyData
  | .str y => if y.length ≤ sizeLine then some (.str y) else none
  | .int i => if i.natAbs.log2 < 1920 then some (.str (toString i)) else none
  | _ => none
theorem dfmt (he : PE X e (lft X.K Z fe)) : PE X (.FormattedValue e (-1) none pos) (lft X.K Z (dUn gFmt fe)) := PEimp (pe_fmt he) fun σ H Q h => by
  obtain ⟨M, s, d, s', rl, hf, k⟩ := h
  obtain ⟨d1, h1, h3⟩ := dUn_some hf
  unfold gFmt at h3
  split at h3
  · split at h3
    · cases h3
      exact ⟨M, s, _, s', rl, h1, fun v H1 k1 r1 t1 => .inl ⟨_, t1.text, by assumption, k _ H1 k1 r1 (.str _)⟩⟩
    · cases h3
  · split at h3
    · cases h3
      exact ⟨M, s, _, s', rl, h1, fun v H1 k1 r1 t1 => .inr ⟨_, t1.inti, by assumption, k _ H1 k1 r1 (.str _)⟩⟩
    · cases h3
  · cases h3
def runJs : List DE → Str → Sl → Option (Str × Sl)
  | [], acc, s => some (acc, s)
  | f :: fs, acc, s => (f s).bind fun p => match p.1 with
    | .str y => if (acc ++ y).length ≤ sizeLine then runJs fs (acc ++ y) p.2 else none
    | _ => none
def dJs (fs : List DE) : DE := fun s => (runJs fs Str.empty s).map fun p => (.str p.1, p.2)
theorem lift_js : ∀ (fs : List DE) (acc : Str) {M : List Addr} {σ : L2.St} {H : Hp} {s s' : Sl} {out : Str} {Q : Str → Hp → Prop}, Rel K Z M σ H s → runJs fs acc s = some (out, s') → (∀ H', Kq Z M H M H' → Rel K Z M σ H' s' → Q out H') → tJs (fs.map (lft K Z)) acc σ H Q
  | [], acc, M, σ, H, s, s', out, Q, rl, e, k => by
    cases e
    exact k H (Kq.refl _ _ _) rl
  | f :: fs, acc, M, σ, H, s, s', out, Q, rl, e, k => by
    unfold runJs at e
    simp only [Option.bind_eq_some_iff] at e
    obtain ⟨⟨d, s1⟩, e1, e2⟩ := e
    dsimp only at e2
    split at e2
    · split at e2
      · exact ⟨M, s, _, s1, rl, e1, fun v H1 k1 r1 t1 => ⟨_, t1.text, by assumption, lift_js fs _ r1 e2 fun H2 k2 r2 => k H2 (k1.trans k2) r2⟩⟩
      · cases e2
    · cases e2
theorem djs {v1 v2 : Expr} {rest : List Expr} {fs : List DE} (h : PJ X (v1 :: v2 :: rest) (fs.map (lft X.K Z))) : PE X (.JoinedStr (v1 :: v2 :: rest) pos) (lft X.K Z (dJs fs)) := PEimp (pe_joined h) fun σ H Q h => by
  obtain ⟨M, s, d, s', rl, hf, k⟩ := h
  unfold dJs at hf
  simp only [Option.map_eq_some_iff] at hf
  obtain ⟨⟨out, s1⟩, h1, h2⟩ := hf
  cases h2
  exact lift_js fs Str.empty rl h1 fun H1 k1 r1 => k _ H1 k1 r1 (.str _)
theorem nmd_of {K : PySem.W.Frag} {mg : Str → Option Value} {nm ts : List Str} (Fx : ExF K mg nm ts) : Nmd K mg nm := fun c hc => Fx.at_ c (List.mem_cons_of_mem _ (List.mem_append_left _ hc))
theorem wordOf_in {nm : List Str} {n : Nat} {b : DS} {c w : Str} (h : wordOf nm n b (some c) = some w) : c ∈ nm := by
  unfold wordOf at h
  dsimp only at h
  split at h
  · assumption
  · cases h
/-! str(..), int(..) -/
def gStr1 : List PyData → Option PyData
  | [.int i] => if i.natAbs.log2 < 1920 then some (.str (toString i)) else none
  | [.str x] => some (.str x)
  | _ => none
def rStr1 : List V → Hp → VK → Prop := fun xs H Q => (∃ i : Int, xs = [.int i] ∧ i.natAbs.log2 < 1920 ∧ Q (.str (toString i)) H) ∨ ∃ a, xs = [.str a] ∧ Q (.str a) H
theorem call_str1 : CallR X (.type "str") rStr1 := CallR.or call_str_int SkE.call_str_str
theorem ok_str1 : CallOk K rStr1 gStr1 := fun mu H xs ds d Q hm t e k => by
  unfold gStr1 at e
  split at e
  · split at e
    case isFalse => cases e
    obtain ⟨x, rfl, t1⟩ := one_of t
    cases e
    exact .inl ⟨_, by rw [t1.inti], by assumption, k _ H (fun _ _ z => z) (.str _)⟩
  · obtain ⟨x, rfl, t1⟩ := one_of t
    cases e
    exact .inr ⟨_, by rw [t1.text], k _ H (fun _ _ z => z) (.str _)⟩
  · cases e
def gIntA : List PyData → Option PyData
  | [.int i] => some (.int i)
  | [.bool b] => some (.int (if b then 1 else 0))
  | [.str x] => if x.length ≤ 640 then (PySem.intText? x).map .int else none
  | _ => none
def rIntA : List V → Hp → VK → Prop := fun xs H Q => ((∃ i, xs = [.int i] ∧ Q (.int i) H) ∨ ∃ k, xs = [.bl k] ∧ Q (.int (if k then 1 else 0)) H) ∨ ∃ a n, xs = [.str a] ∧ PySem.intText? a = some n ∧ a.length ≤ 640 ∧ Q (.int n) H
theorem call_intA : CallR X (.type "int") rIntA := CallR.or call_int1 call_int_str
theorem ok_intA : CallOk K rIntA gIntA := fun mu H xs ds d Q hm t e k => by
  unfold gIntA at e
  split at e
  · obtain ⟨x, rfl, t1⟩ := one_of t
    cases e
    exact .inl (.inl ⟨_, by rw [t1.inti], k _ H (fun _ _ z => z) (.int _)⟩)
  · obtain ⟨x, rfl, t1⟩ := one_of t
    cases e
    exact .inl (.inr ⟨_, by rw [t1.bool], k _ H (fun _ _ z => z) (.int _)⟩)
  · split at e
    case isFalse => cases e
    obtain ⟨x, rfl, t1⟩ := one_of t
    simp only [Option.map_eq_some_iff] at e
    obtain ⟨n, e1, e2⟩ := e
    cases e2
    exact .inr ⟨_, n, by rw [t1.text], e1, by assumption, k _ H (fun _ _ z => z) (.int _)⟩
  · cases e
/-! x[a], x[b] = e, f -/
def sSwp (i : Nat) (f1 f2 k1 k2 : DE) : DS := fun s => (f1 s).bind fun p1 => (f2 p1.2).bind fun p2 => (contents p2.2 i).bind fun _ => (k1 p2.2).bind fun q1 => (contents q1.2 i).bind fun ds1 => match q1.1 with
  | .int n1 => (ixN ds1.length n1).bind fun j1 => (k2 (setC q1.2 i (ds1.set j1 p1.1))).bind fun q2 => (contents q2.2 i).bind fun ds2 => match q2.1 with
    | .int n2 => (ixN ds2.length n2).map fun j2 => .nx (setC q2.2 i (ds2.set j2 p2.1))
    | _ => none
  | _ => none
theorem sswp (i : Nat) {a1 a2 e1 e2 c1 c2 : Expr} {p1 p2 pt pt2 : Pos} {kt kt2 : Nat} {f1 f2 g1 g2 : DE} (hc : X.calm = true) (h1 : PE X e1 (lft X.K Z f1)) (h2 : PE X e2 (lft X.K Z f2)) (ha1 : PE X a1 (tVar i)) (ha2 : PE X a2 (tVar i)) (hc1 : PE X c1 (lft X.K Z g1)) (hc2 : PE X c2 (lft X.K Z g2))
    (h4 : ∀ v, assign (.Subscript a1 c1 p1) X.env v = (do
      let ov ← holding [v] (eval a1 X.env)
      let iv ← holding [v, ov] (eval c1 X.env)
      standAt p1
      holding [v, ov, iv] (setItem ov iv v)
      release [v, ov, iv] []) := by intro _; rfl)
    (h5 : ∀ v, assign (.Subscript a2 c2 p2) X.env v = (do
      let ov ← holding [v] (eval a2 X.env)
      let iv ← holding [v, ov] (eval c2 X.env)
      standAt p2
      holding [v, ov, iv] (setItem ov iv v)
      release [v, ov, iv] []) := by intro _; rfl)
    (hs1 : starEach [e1, e2] X.env = (false, eval e1 X.env) :: starEach [e2] X.env := by rfl) (hs2 : starEach [e2] X.env = (false, eval e2 X.env) :: starEach [] X.env := by rfl)
    (hs : swapsWithSole [.Tuple [.Subscript a1 c1 p1, .Subscript a2 c2 p2] kt pt] (.Tuple [e1, e2] kt2 pt2) pos.line X.env = pure false := by rfl) (hw : swappedStores [.Tuple [.Subscript a1 c1 p1, .Subscript a2 c2 p2] kt pt] (.Tuple [e1, e2] kt2 pt2) X.env = pure none := by rfl)
    (h6 : (assignEach [.Tuple [.Subscript a1 c1 p1, .Subscript a2 c2 p2] kt pt] X.env).map (·.2) = [assign (.Tuple [.Subscript a1 c1 p1, .Subscript a2 c2 p2] kt pt) X.env] := by rfl) (hn : (assignEach [.Subscript a1 c1 p1, .Subscript a2 c2 p2] X.env).length = 2 := by rfl) :
    PS X (.Assign [.Tuple [.Subscript a1 c1 p1, .Subscript a2 c2 p2] kt pt] (.Tuple [e1, e2] kt2 pt2) pos) (lfS X.K Z (sSwp i f1 f2 g1 g2)) :=
  PSimp (ps_asg (pe_tup (pa_cons h1 (pa_cons h2 pa_nil hs2) hs1)) (pg_tup hc (pgs_cons (pg_sub ha1 hc1 set_list h4) (pgs_cons (pg_sub ha2 hc2 set_list h5) pgs_nil))) hs hw h6) fun D σ H h => by
    obtain ⟨M, s, fl, rl, hf, k⟩ := h
    unfold sSwp at hf
    simp only [Option.bind_eq_some_iff] at hf
    obtain ⟨⟨d1, s1⟩, e1, ⟨d2, s2⟩, e2, ds0, e3, ⟨q1, s3⟩, e4, ds1, e5, hf⟩ := hf
    dsimp only at e2 e3 e4 e5 hf
    split at hf
    case h_2 => cases hf
    rename_i n1
    simp only [Option.bind_eq_some_iff] at hf
    obtain ⟨j1, e6, ⟨q2, s4⟩, e7, ds2, e8, hf⟩ := hf
    dsimp only at e8 hf
    split at hf
    case h_2 => cases hf
    rename_i n2
    simp only [Option.map_eq_some_iff] at hf
    obtain ⟨j2, e9, e10⟩ := hf
    cases e10
    refine ⟨M, s, d1, s1, rl, e1, fun v1 H1 k1 r1 t1 => ⟨M, s1, d2, s2, r1, e2, fun v2 H2 k2 r2 t2 => ⟨by show 2 ≤ sizeLine; decide, fun p hp => ?_⟩⟩⟩
    have r2' := r2.grow (grow_new (o := .tup [v1, v2]) hp)
    have kn : Kq Z M H2 M (upd H2 p (.tup [v1, v2])) := kq_grow (grow_new hp)
    refine ⟨p, [v1, v2], rfl, .inl (.inl upd_same), by rw [hn]; rfl, v1, [v2], rfl, ?_⟩
    obtain ⟨a0, xs0, g1, _⟩ := r2'.at e3
    refine ⟨.ref a0, g1, M, s2, .int n1, s3, r2', e4, fun w H3 k3 r3 t3 => ?_⟩
    obtain ⟨a1, xs, g3, g4, g5, g6, up⟩ := r3.at e5
    rw [g1] at g3
    cases g3
    refine ⟨a0, xs, n1, j1, rfl, t3.inti, g4, by rw [g5.len]; exact e6, ?_⟩
    have kk : Kp (Mu Z M) H3 (Mu Z M) (upd H3 a0 (.lst (xs.set j1 v1))) := fun b o e n => ⟨upd_lst b o e (fun z => n (by subst z; assumption)), n⟩
    have t1' := t1.mono (k2.trans (kn.trans k3)).kp
    have t2' := t2.mono (kn.trans k3).kp
    obtain ⟨r4, k4⟩ := up (upd H3 a0 (.lst (xs.set j1 v1))) (xs.set j1 v1) (ds1.set j1 d1) upd_same upd_lst ((DtAll.set t1' j1 g5).mono kk)
    refine ⟨v2, [], rfl, ?_⟩
    refine ⟨.ref a0, g1, M, _, .int n2, s4, r4, e7, fun w2 H5 k5 r5 t5 => ?_⟩
    obtain ⟨a3, ys, g7, g8, g9, g10, up2⟩ := r5.at e8
    rw [g1] at g7
    cases g7
    refine ⟨a0, ys, n2, j2, rfl, t5.inti, g8, by rw [g9.len]; exact e9, ?_⟩
    have kk2 : Kp (Mu Z M) H5 (Mu Z M) (upd H5 a0 (.lst (ys.set j2 v2))) := fun b o e n => ⟨upd_lst b o e (fun z => n (by subst z; assumption)), n⟩
    obtain ⟨r6, k6⟩ := up2 (upd H5 a0 (.lst (ys.set j2 v2))) (ys.set j2 v2) (ds2.set j2 d2) upd_same upd_lst ((DtAll.set (t2'.mono (k4.trans k5).kp) j2 g9).mono kk2)
    exact ⟨rfl, k M σ _ (k1.trans (k2.trans (kn.trans (k3.trans (k4.trans (k5.trans k6)))))) r6⟩
end
end Dl

/-! ### sum, least of a list; a tuple some times -/
namespace Dl
open PySem PySem.Spec PyProof.Rows L2
def intsD : List PyData → Option (List Int)
  | [] => some []
  | .int i :: r => (intsD r).map (i :: ·)
  | _ => none
theorem intsD_map : ∀ {ds : List PyData} {ns : List Int}, intsD ds = some ns → ds = ns.map .int
  | [], ns, h => by cases h; rfl
  | d :: r, ns, h => by
    unfold intsD at h
    split at h
    · rename_i q; cases q
    · rename_i i r' q
      cases q
      simp only [Option.map_eq_some_iff] at h
      obtain ⟨ms, h1, rfl⟩ := h
      rw [intsD_map h1]
      rfl
    · cases h
def gSum : List PyData → Option PyData
  | [.list ds] => (intsD ds).map fun ns => .int ns.sum
  | _ => none
def least : List Int → Int → Int
  | [], m => m
  | n :: r, m => least r (if n < m then n else m)
theorem least_mem : ∀ (r : List Int) (m : Int), least r m = m ∨ least r m ∈ r
  | [], m => .inl rfl
  | n :: r, m => by
    rw [least]
    rcases least_mem r (if n < m then n else m) with h | h
    · rw [h]
      by_cases c : n < m
      · rw [if_pos c]; exact .inr List.mem_cons_self
      · rw [if_neg c]; exact .inl rfl
    · exact .inr (List.mem_cons_of_mem _ h)
theorem least_le : ∀ (r : List Int) (m : Int), least r m ≤ m ∧ ∀ y ∈ r, least r m ≤ y
  | [], m => ⟨Int.le_refl _, fun _ h => by cases h⟩
  | n :: r, m => by
    obtain ⟨h1, h2⟩ := least_le r (if n < m then n else m)
    rw [least]
    have h3 : (if n < m then n else m) ≤ m ∧ (if n < m then n else m) ≤ n := by split <;> omega
    refine ⟨by omega, fun y hy => ?_⟩
    rcases List.mem_cons.mp hy with rfl | q
    · omega
    · exact h2 y q
/-- min(i, j), min(xs) -/
def gMin : List PyData → Option PyData
  | [.int i, .int j] => some (.int (if j < i then j else i))
  | [.list ds] => (intsD ds).bind fun ns => match ns with
    | [] => none
    | n :: r => some (.int (least r n))
  | _ => none
/-- numbers; a tuple some times -/
def gMulA : PyData → PyData → Option PyData
  | .tuple ds, .int n => if (ds ≠ [] ∧ ds.length ≤ 1000) ∧ 2 ≤ n ∧ n ≤ 1000 then some (.tuple (List.replicate n.toNat ds).flatten) else none
  | d, e => gMul d e
section
variable {X : Cx} {K : PySem.W.Frag}
theorem ok_sum : CallOk K (rSum K) gSum := fun mu H xs ds d Q hm t e k => by
  unfold gSum at e
  split at e
  · obtain ⟨x, rfl, t1⟩ := one_of t
    simp only [Option.map_eq_some_iff] at e
    obtain ⟨ns, e1, e2⟩ := e
    cases e2
    obtain ⟨a, xs, rfl, h1, u1⟩ := t1.list
    rw [intsD_map e1] at u1
    rw [u1.ints] at h1
    exact ⟨a, ns, rfl, h1, k _ H (fun _ _ z => z) (.int _)⟩
  · cases e
def rMinA (K : PySem.W.Frag) : List V → Hp → VK → Prop := fun xs H Q => (∃ i j, xs = [.int i, .int j] ∧ Q (.int (if j < i then j else i)) H) ∨ rMin K xs H Q
theorem call_minA (hc : X.calm = true) : CallR X (.builtin "min") (rMinA X.K) := fun pins s σ H xs us Q I r h =>
  h.elim (fun h => call_min2 hc pins s σ H xs us Q I r h) fun h => cr_min hc pins s σ H xs us Q I r h
theorem ok_minA : CallOk K (rMinA K) gMin := fun mu H xs ds d Q hm t e k => by
  unfold gMin at e
  split at e
  · obtain ⟨x, y, rfl, t1, u⟩ := two_of t
    cases e
    exact .inl ⟨_, _, by rw [t1.inti, u.inti], k _ H (fun _ _ z => z) (.int _)⟩
  · obtain ⟨x, rfl, t1⟩ := one_of t
    simp only [Option.bind_eq_some_iff] at e
    obtain ⟨ns, e1, e2⟩ := e
    cases ns with
    | nil => cases e2
    | cons n r =>
    cases e2
    obtain ⟨a, xs, rfl, h1, u1⟩ := t1.list
    rw [intsD_map e1] at u1
    rw [u1.ints] at h1
    refine .inr ⟨a, n :: r, rfl, h1, by simp, fun m hm2 hle => ?_⟩
    have l := least_le r n
    have e3 : m = least r n := by
      have q1 : least r n ≤ m := by
        rcases List.mem_cons.mp hm2 with rfl | z
        · exact l.1
        · exact l.2 m z
      have q2 : m ≤ least r n := by
        rcases least_mem r n with z | z
        · rw [z]; exact hle n List.mem_cons_self
        · exact hle _ (List.mem_cons_of_mem _ z)
      omega
    subst e3
    exact k _ H (fun _ _ z => z) (.int _)
  · cases e
theorem dt_rep {mu : Addr → Prop} {H : Hp} {xs : List V} {ds : List PyData} (t : DtAll K mu H xs ds) : ∀ m : Nat, DtAll K mu H (List.replicate m xs).flatten (List.replicate m ds).flatten
  | 0 => .nil
  | m + 1 => by
    rw [List.replicate_succ, List.replicate_succ, List.flatten_cons, List.flatten_cons]
    exact t.append (dt_rep t m)
def rMulA (K : PySem.W.Frag) : R2 := fun x y H Q => rI CMulW (fun i j => .int (i * j)) x y H Q ∨ rRepT K x y H Q
theorem op_mulA : OpR X (binaryOp .Mult) (rMulA X.K) := OpR.or op_mulW op_repT
theorem ok_mulA : OpOk K (rMulA K) gMulA := fun mu H x y d1 d2 d Q hm t1 t2 e k => by
  unfold gMulA at e
  split at e
  · rename_i ds n
    split at e
    case isFalse => cases e
    rename_i hc
    cases e
    obtain ⟨a, xs, rfl, h1, u1⟩ := t1.tuple
    refine .inr ⟨a, n, xs, rfl, t2.inti, h1, fun z => hc.1.1 ?_, hc.2.1, hc.2.2, by rw [u1.len]; exact hc.1.2, fun p hp => k _ _ (grow_new hp) (dt_newT hm hp (dt_rep u1 _))⟩
    subst z
    cases u1
    rfl
  · exact .inl (ok_mul mu H x y d1 d2 d Q hm t1 t2 e k)
end
end Dl

/-! ### a list taken apart, a while that may raise, list and text some times, a list of one's own compared -/
namespace Dl
open PySem PySem.Spec PyProof.Rows L2
/-- a list into as many names -/
def tgL (gs : List (PyData → Sl → Option Sl)) : PyData → Sl → Option Sl := fun d s => match d with
  | .list ds => tgTs gs ds s
  | _ => none
theorem tgl {K : PySem.W.Frag} {n : Nat} {gs : TGs} {gds : List (PyData → Sl → Option Sl)} (hn : n = gds.length) (hs : TgsOk K gs (tgTs gds)) : TgOk K (gLst K n gs) (tgL gds) := fun Z M σ H s s' x d Q r t e k => by
  unfold tgL at e
  split at e
  · rename_i ds
    obtain ⟨a, xs, rfl, h1, h2⟩ := t.list
    exact ⟨a, xs, rfl, h1, by rw [h2.len, tgTs_len e, hn], hs Z M σ H s s' xs ds Q r h2 e k⟩
  · cases e
/-- while, the body may raise -/
def xsWhile (t : DT) (b : DSx) : Nat → DSx
  | 0 => fun _ => none
  | n + 1 => fun s => (t s).bind fun p => if p.1 = true then (b p.2).bind fun r => match r with
      | .ex c s' => some (.ex c s')
      | .fl (.nx s') => xsWhile t b n s'
      | .fl (.ct s') => xsWhile t b n s'
      | .fl (.bk s') => some (.fl (.nx s'))
      | .fl (.rt d s') => some (.fl (.rt d s'))
    else some (.fl (.nx p.2))
section
variable {X : Cx} {Z : Par} {W : WX} {a b e : Expr} {es : List Expr} {pos : Pos} {fa fb fc : DE} {f : DSx} {t : DT}
theorem lift_xwhile {n : Nat} {D : Ends} {σ : L2.St} {H : Hp} (h : lfSx X.K X.mg Z W (xsWhile t f n) D σ H) : tWhile (lfT X.K Z t) (lfSx X.K X.mg Z W f) D σ H := by
  obtain ⟨M, s, r, rl, hf, k⟩ := h
  refine ⟨fun m σ' H' => ∃ M' s', Kq Z M H M' H' ∧ Rel X.K Z M' σ' H' s' ∧ xsWhile t f m s' = some r, ⟨n, M, s, Kq.refl _ _ _, rl, hf⟩, ?_⟩
  rintro m σ' H' ⟨M', s', k2, r2, h3⟩
  cases m with
  | zero => cases h3
  | succ m =>
    unfold xsWhile at h3
    simp only [Option.bind_eq_some_iff] at h3
    obtain ⟨⟨b1, s1⟩, e1, h4⟩ := h3
    dsimp only at h4
    refine ⟨M', s', b1, s1, r2, e1, fun H1 k1 r1 => ?_⟩
    cases b1 with
    | true =>
      rw [if_pos rfl]
      rw [if_pos rfl] at h4
      simp only [Option.bind_eq_some_iff] at h4
      obtain ⟨fl1, e2, h5⟩ := h4
      refine ⟨fun σ3 H3 => ∃ M3 s3, Kq Z M H M3 H3 ∧ Rel X.K Z M3 σ3 H3 s3 ∧ xsWhile t f m s3 = some r, fun σ3 H3 q => ⟨m, Nat.lt_succ_self _, q⟩, ?_⟩
      refine ⟨M', s1, fl1, r1, e2, ?_⟩
      have kk : Kq Z M H M' H1 := k2.trans k1
      match fl1, h5 with
      | .ex c s4, h5 => cases h5; exact ExAt.mono kk k
      | .fl (.nx s4), h5 => exact fun M4 σ4 H4 k4 r4 => ⟨M4, s4, kk.trans k4, r4, h5⟩
      | .fl (.ct s4), h5 => exact fun M4 σ4 H4 k4 r4 => ⟨M4, s4, kk.trans k4, r4, h5⟩
      | .fl (.bk s4), h5 => cases h5; exact fun M4 σ4 H4 k4 r4 => k M4 σ4 H4 (kk.trans k4) r4
      | .fl (.rt d4 s4), h5 => cases h5; exact fun M4 σ4 H4 v4 k4 r4 t4 => k M4 σ4 H4 v4 (kk.trans k4) r4 t4
    | false =>
      rw [if_neg Bool.false_ne_true]
      rw [if_neg Bool.false_ne_true] at h4
      cases h4
      exact k M' σ' H1 (k2.trans k1) r1
theorem xswhile (n : Nat) {c : Expr} {body : List Stmt} (hp : PassesOwn (model X.prog X.w) X.A X.env X.xe) (hc : PT X c (lfT X.K Z t)) (hb : PSs X body (lfSx X.K X.mg Z W f)) : PS X (.While c body [] pos) (lfSx X.K X.mg Z W (xsWhile t f n)) :=
  PSimp (ps_while hp hc hb) fun _ _ _ h => lift_xwhile h
/-- a list of one's own, on the left of a comparison -/
def dOpC (g : PyData → PyData → Option PyData) (i : Nat) (fb : DE) : DE := fun s => (contents s i).bind fun _ => (fb s).bind fun q => (contents q.2 i).bind fun ds => (g (.list ds) q.1).bind fun d => match d with
  | .bool b => some (.bool b, q.2)
  | _ => none
theorem lift_opC {r : R2} {g : PyData → PyData → Option PyData} (ok : OpOk X.K r g) {i : Nat} {σ : L2.St} {H : Hp} {Q : VK} (h : lft X.K Z (dOpC g i fb) σ H Q) : tOp r (tVar i) (lft X.K Z fb) σ H Q := by
  obtain ⟨M, s, d, s', rl, hf, k⟩ := h
  unfold dOpC at hf
  simp only [Option.bind_eq_some_iff] at hf
  obtain ⟨ds0, h0, ⟨d2, s2⟩, h1, ds, h2, d3, h3, h4⟩ := hf
  dsimp only at h2 h3 h4
  obtain ⟨a0, xs0, e0, _⟩ := rl.at h0
  refine ⟨.ref a0, e0, M, s, d2, s2, rl, h1, fun v H1 k1 r1 t1 => ?_⟩
  obtain ⟨a1, xs, e1, e2, e3, e4, _⟩ := r1.at h2
  rw [e0] at e1
  cases e1
  have kk : Kp (Mu Z M) H1 (fun b => Mu Z M b ∧ b ≠ a0) H1 := fun b o e n => ⟨e, fun z => n z.1⟩
  refine ok (fun b => Mu Z M b ∧ b ≠ a0) H1 (.ref a0) v (.list ds) d2 d3 Q (fun b hb => r1.muT b hb.1) (.lst (.inl e2) (fun z => z.2 rfl) (e3.mono kk)) (t1.mono kk) h3 fun v2 H2 g2 t2 => ?_
  split at h4
  · cases h4
    rw [t2.bool]
    exact k _ H2 (k1.trans (kq_grow g2)) (r1.grow g2) (.bl _)
  · cases h4
theorem dcmpC {op : CmpOp} {r : R2} {g : PyData → PyData → Option PyData} (i : Nat) (ho : OpR X (compareOp op) r) (ok : OpOk X.K r g) (ha : PE X a (tVar i)) (hb : PE X b (lft X.K Z fb)) (hm : behindInMarks op b = false) : PE X (.Compare a [op] [b] pos) (lft X.K Z (dOpC g i fb)) :=
  PEimp (pe_cmpR ho ha hb hm) fun _ _ _ h => lift_opC ok h
theorem dtcmpC {op : CmpOp} {r : R2} {g : PyData → PyData → Option PyData} (i : Nat) (ho : OpR X (compareOp op) r) (ok : OpOk X.K r g) (ha : PE X a (tVar i)) (hb : PE X b (lft X.K Z fb)) (hm : behindInMarks op b = false) : PT X (.Compare a [op] [b] pos) (lfT X.K Z (dTst (dOpC g i fb))) :=
  PTimp (pt_cmpR ho ha hb hm) fun σ H Q h => by
    obtain ⟨M, s, b, s', rl, hf, k⟩ := h
    exact lift_opC ok ⟨M, s, .bool b, s', rl, dTst_some hf, fun v H' k1 r1 t1 => ⟨b, t1.bool, k H' k1 r1⟩⟩
end
section
variable {X : Cx} {K : PySem.W.Frag}
/-- a list that is read, some times -/
def rRepL (K : PySem.W.Frag) : R2 := fun x y H Q => ∃ l k xs, x = .ref l ∧ y = .int k ∧ Rd H l (.lst xs) ∧ -(2 ^ 63) ≤ k ∧ k < 2 ^ 63 ∧ xs.length * k.toNat ≤ sizeLine ∧
  ∀ p, H p = none → Q (.ref p) (upd H p (.lst (List.replicate k.toNat xs).flatten))
theorem op_repL : OpR X (binaryOp .Mult) (rRepL X.K) := by
  intro pins s σ H x y v u Q I rx ry h
  obtain ⟨l, k, xs, rfl, rfl, hH, h1, h2, hz, q⟩ := h
  cases rx
  obtain ⟨t, rfl⟩ := ry
  obtain ⟨z, its, n, r, e⟩ := hH.ok I.hok
  have hl := r.length
  have hlen : its.toArray.size * k.toNat ≤ sizeLine := by rw [List.size_toArray, ← hl]; exact hz
  have hcap : ¬ its.toArray.size * k.toNat > (2 ^ 63 - 1) / 8 := by
    have : (sizeLine : Nat) ≤ (2 ^ 63 - 1) / 8 := by decide
    omega
  have hfit : ¬ (!Builtin.List.listFitsIndex k) = true := by
    rw [fitsIndex_both h1 h2]
    exact Bool.false_ne_true
  have hlong : ¬ Builtin.List.listTooLong (its.toArray.size * k.toNat) = true := by
    rw [notLongL hlen]
    exact Bool.false_ne_true
  have hnew : List.foldl (fun x1 x2 => x1 ++ x2) #[] (List.replicate (if its.toArray.isEmpty = true then 0 else k.toNat) its.toArray) = (List.replicate k.toNat its).flatten.toArray := by
    have f0 : ∀ m : Nat, List.foldl (fun x1 x2 => x1 ++ x2) #[] (List.replicate m its.toArray) = (List.replicate m its).flatten.toArray := fun m => by
      have := foldl_rep its m []
      rw [List.nil_append] at this
      exact this
    rw [f0]
    cases its with
    | nil => simp
    | cons a r' => rw [if_neg (by simp)]
  refine wpAny_binaryOp_repeat_ref (T := "list") (U := "int") (by decide) ⟨_, e, rfl⟩ (fun s' => typeIs_int s' k t) noFill_list_mul F.fills_int_mul F.slot_int_rmul repeat_list F.slot_int_index.lookup
    (call_meets F.slot_int_rmul (typeIs_int s k t) F.entry_int_rmul (F.args_int_rmul_2 _ _) (int___rmul___int_list k t l its.toArray n)
      ⟨e, rfl, ⟨_, e, rfl⟩, call_meets F.slot_list_mul ⟨_, e, rfl⟩ F.entry_list_mul (F.args_list_mul_2 _ _) (AutoListH.list___mul___list_int_3 l its.toArray n k t hfit hcap hlong) ⟨e, ?_⟩⟩)
  rw [hnew]
  exact ⟨.ref _, _, I.lnew (t' := s.toks) (r.rep k.toNat) (by rw [PyProof.Rows.lm_len_rep_flat, Nat.mul_comm]; exact hz), rfl, q _ I.fresh⟩
/-- a text some times, twice at least -/
def repS (x : Str) (n : Nat) : Str := ⟨(List.replicate n x.cps).foldl (· ++ ·) #[]⟩
def rRepS : R2 := fun x y H Q => ∃ z k, x = .str z ∧ y = .int k ∧ 2 ≤ k ∧ k < 1000 ∧ 1 ≤ z.length ∧ z.length ≤ 1000 ∧ Q (.str (repS z k.toNat)) H
theorem op_repS : OpR X (binaryOp .Mult) rRepS := by
  intro pins s σ H x y v u Q I rx ry h
  obtain ⟨z, k, rfl, rfl, h1, h2, h3, h4, q⟩ := h
  obtain ⟨t, rfl⟩ := rx
  obtain ⟨t', rfl⟩ := ry
  have n1 : ¬ k < 1 := by omega
  have n2 : (k == 1 || z.length == 0) = false := by
    rw [Bool.or_eq_false_iff]
    exact ⟨beq_eq_false_iff_ne.mpr (by omega), beq_eq_false_iff_ne.mpr (by omega)⟩
  have n3 : z.length * k.toNat ≤ 1000 * 1000 := Nat.mul_le_mul h4 (by omega)
  have n4 : Builtin.Str.tooLong (z.length * k.toNat) = false := by
    unfold Builtin.Str.tooLong
    have : (sizeLine : Nat) ≥ 1000 * 1000 := by decide
    simp only [decide_eq_false_iff_not]
    omega
  refine PySem.P.mul_str (by
    have a1 : ¬ k < -(2 ^ 63 : Int) := by omega
    have a2 : ¬ k ≥ 2 ^ 63 := by omega
    rw [decide_eq_false a1, decide_eq_false a2]; rfl) (fun _ _ => ?_) (fun _ _ => n4) ?_
  · have : (1000 : Int) ≤ (2 ^ 63 - 1) / k := by
      rw [Int.le_ediv_iff_mul_le (by omega)]
      omega
    omega
  · rw [if_neg n1, n2, if_neg Bool.false_ne_true]
    exact ⟨fits_reps n4, .str _, H, I.tok _, ⟨_, rfl⟩, q⟩
/-- what of the two is defined -/
def gMulB : PyData → PyData → Option PyData
  | .list ds, .int n => if (-(2 ^ 63) ≤ n ∧ n < 2 ^ 63) ∧ ds.length * n.toNat ≤ sizeLine then some (.list (List.replicate n.toNat ds).flatten) else none
  | .str z, .int n => if (2 ≤ n ∧ n < 1000) ∧ 1 ≤ z.length ∧ z.length ≤ 1000 then some (.str (repS z n.toNat)) else none
  | d, e => gMul d e
def rMulB (K : PySem.W.Frag) : R2 := fun x y H Q => (rI CMulW (fun i j => .int (i * j)) x y H Q ∨ rRepL K x y H Q) ∨ rRepS x y H Q
theorem op_mulB : OpR X (binaryOp .Mult) (rMulB X.K) := OpR.or (OpR.or op_mulW op_repL) op_repS
theorem ok_mulB : OpOk K (rMulB K) gMulB := fun mu H x y d1 d2 d Q hm t1 t2 e k => by
  unfold gMulB at e
  split at e
  · rename_i ds n
    split at e
    case isFalse => cases e
    rename_i hc
    cases e
    obtain ⟨a, xs, rfl, h1, u1⟩ := t1.listR
    exact .inl (.inr ⟨a, n, xs, rfl, t2.inti, h1, hc.1.1, hc.1.2, by rw [u1.len]; exact hc.2, fun p hp => k _ _ (grow_new hp) (dt_newL hm hp (dt_rep u1 _))⟩)
  · rename_i z n
    split at e
    case isFalse => cases e
    rename_i hc
    cases e
    exact .inr ⟨z, n, t1.text, t2.inti, hc.1.1, hc.1.2, hc.2.1, hc.2.2, k _ H (fun _ _ z => z) (.str _)⟩
  · exact .inl (.inl (ok_mul mu H x y d1 d2 d Q hm t1 t2 e k))
end
section
variable {P : Program} {w : World} {K : PySem.W.Frag} {mg : Str → Option Value} {base : Heap}
theorem Std.noneX {x : Str} {st : Stmt} {ps : List Str} (c : Std K mg x st ps) (k : Nat) : CalX P w K mg base k x ps (spX K mg fun _ => none) := by
  obtain ⟨f, fd, F, hm, hb⟩ := c
  refine ⟨f, fd, ⟨fun vs H Q E h => ?_, fun A outer s H args us vs Q E hr e hb hv h => ?_⟩, hm, F.kp, hb⟩
  · obtain ⟨_, _, _, _, _, h, _⟩ := h
    cases h
  · obtain ⟨_, _, _, _, _, h, _⟩ := h
    cases h
end
end Dl

/-! ### dicts, by numbers and texts, by tuples of these -/
namespace Dl
open PySem PySem.Spec PyProof.Rows L2
def kOf : PyData → Option Key
  | .int i => some (.inl i)
  | .str x => some (.inr x)
  | _ => none
theorem kOf_kD (k : Key) : kOf (kD k) = some k := by cases k <;> rfl
theorem kOf_eq {d : PyData} {k : Key} (h : kOf d = some k) : d = kD k := by
  cases d <;> cases h <;> rfl
def ksOf : List PyData → Option (List Key)
  | [] => some []
  | d :: r => (kOf d).bind fun k => (ksOf r).map (k :: ·)
theorem ksOf_map : ∀ ks : List Key, ksOf (ks.map kD) = some ks
  | [] => rfl
  | k :: r => by rw [List.map_cons, ksOf, kOf_kD, Option.bind_some, ksOf_map r]; rfl
theorem ksOf_eq : ∀ {ds : List PyData} {ks : List Key}, ksOf ds = some ks → ds = ks.map kD
  | [], _, h => by cases h; rfl
  | d :: r, ks, h => by
    unfold ksOf at h
    simp only [Option.bind_eq_some_iff, Option.map_eq_some_iff] at h
    obtain ⟨k, h1, r', h2, rfl⟩ := h
    rw [List.map_cons, ← kOf_eq h1, ← ksOf_eq h2]
/-- a key that is a tuple: of numbers and texts, one number at least -/
def keyT : PyData → Option (List Key)
  | .tuple ds => if keyless ds = true then none else ksOf ds
  | _ => none
section
variable {κ : Type} [DecidableEq κ]
def getL (ds : List (κ × PyData)) (k : κ) : Option PyData := (ds.find? fun p => decide (p.1 = k)).map (·.2)
def putL (ds : List (κ × PyData)) (k : κ) (d : PyData) : List (κ × PyData) := if (ds.any fun p => decide (p.1 = k)) = true then ds.map (fun p => if p.1 = k then (p.1, d) else p) else ds ++ [(k, d)]
theorem getL_cons {p : κ × PyData} {r : List (κ × PyData)} {k : κ} : getL (p :: r) k = if p.1 = k then some p.2 else getL r k := by
  unfold getL
  rw [List.find?_cons]
  by_cases e : p.1 = k
  · rw [if_pos e]; simp [e]
  · rw [if_neg e]; simp [e]
theorem valV_cons {p : κ × V} {r : List (κ × V)} {k : κ} : valV (p :: r) k = if p.1 = k then some p.2 else valV r k := by
  by_cases e : p.1 = k
  · rw [if_pos e, valV_pos e]
  · rw [if_neg e, valV_neg e]
theorem putK_cons {p : κ × V} {r : List (κ × V)} {k : κ} {v : V} (e : p.1 ≠ k) : putK (p :: r) k v = p :: putK r k v := by
  unfold putK
  rw [List.any_cons, decide_eq_false e, Bool.false_or]
  split
  · rw [List.map_cons, if_neg e]
  · rfl
theorem putL_cons {p : κ × PyData} {r : List (κ × PyData)} {k : κ} {v : PyData} (e : p.1 ≠ k) : putL (p :: r) k v = p :: putL r k v := by
  unfold putL
  rw [List.any_cons, decide_eq_false e, Bool.false_or]
  split
  · rw [List.map_cons, if_neg e]
  · rfl
end
/-- dicts by numbers and texts, as trees -/
def getF (ds : List (PyData × PyData)) (k : Key) : Option PyData := (ds.find? fun p => decide (kOf p.1 = some k)).map (·.2)
def putF (ds : List (PyData × PyData)) (k : Key) (d : PyData) : List (PyData × PyData) := if (ds.any fun p => decide (kOf p.1 = some k)) = true then ds.map (fun p => if kOf p.1 = some k then (p.1, d) else p) else ds ++ [(kD k, d)]
section
variable {K : PySem.W.Frag} {mu : Addr → Prop} {H : Hp}
theorem DtAll.keys : ∀ {xs : List V} {ks : List Key}, DtAll K mu H xs (ks.map kD) → xs = ks.map kV
  | _, [], .nil => rfl
  | _, .inl i :: r, .cons h t => by
    rw [List.map_cons, ← DtAll.keys t, (show Dt K mu H _ (.int i) from h).inti]
    rfl
  | _, .inr x :: r, .cons h t => by
    rw [List.map_cons, ← DtAll.keys t, (show Dt K mu H _ (.str x) from h).text]
    rfl
theorem Dt.keyT {v : V} {d : PyData} {ks : List Key} (t : Dt K mu H v d) (e : keyT d = some ks) : ∃ b, v = .ref b ∧ H b = some (.tup (ks.map kV)) := by
  unfold Dl.keyT at e
  split at e
  · split at e
    · cases e
    · rename_i ds nk
      have := ksOf_eq e
      subst this
      cases t with
      | tup h n t =>
        obtain rfl := t.keys
        exact ⟨_, rfl, h⟩
      | tupK h z t => exact absurd z nk
  · cases e
theorem Dt.keyF {v : V} {d : PyData} {k : Key} (t : Dt K mu H v d) (e : kOf d = some k) : v = kV k := by
  have := kOf_eq e
  subst this
  cases k with
  | inl i => exact (show Dt K mu H v (.int i) from t).inti
  | inr x => exact (show Dt K mu H v (.str x) from t).text
/-- what a look says -/
def SameO (K : PySem.W.Frag) (mu : Addr → Prop) (H : Hp) : Option V → Option PyData → Prop
  | some v, some d => Dt K mu H v d
  | none, none => True
  | _, _ => False
theorem DtKT.get (k : List Key) : ∀ {kvs : List (List Key × V)} {ds : List (List Key × PyData)}, DtKT K mu H kvs ds → SameO K mu H (valV kvs k) (getL ds k)
  | _, _, .nil => True.intro
  | _, _, .cons (k := k') h t => by
    rw [valV_cons, getL_cons]
    dsimp only
    by_cases e : k' = k
    · rw [if_pos e, if_pos e]; exact h
    · rw [if_neg e, if_neg e]; exact DtKT.get k t
theorem getF_cons {d1 d2 : PyData} {r : List (PyData × PyData)} {k' k : Key} (h : d1 = kD k') : getF ((d1, d2) :: r) k = if k' = k then some d2 else getF r k := by
  subst h
  unfold getF
  rw [List.find?_cons]
  have : (kOf (kD k') = some k) ↔ k' = k := by rw [kOf_kD]; exact ⟨Option.some.inj, fun e => by rw [e]⟩
  by_cases e : k' = k
  · rw [if_pos e]; simp [this.mpr e]
  · rw [if_neg e]
    dsimp only
    rw [decide_eq_false (fun z => e (this.mp z))]
theorem DtKv.get (k : Key) : ∀ {kvs : List (Key × V)} {ds : List (PyData × PyData)}, DtKv K mu H kvs ds → SameO K mu H (valV kvs k) (getF ds k)
  | _, _, .nil => True.intro
  | _, _, .cons (k := k') h t => by
    rw [valV_cons, getF_cons rfl]
    dsimp only
    by_cases e : k' = k
    · rw [if_pos e, if_pos e]; exact h
    · rw [if_neg e, if_neg e]; exact DtKv.get k t
theorem DtKT.len : ∀ {kvs : List (List Key × V)} {ds : List (List Key × PyData)}, DtKT K mu H kvs ds → kvs.length = ds.length
  | _, _, .nil => rfl
  | _, _, .cons _ t => by rw [List.length_cons, List.length_cons, DtKT.len t]
theorem DtKv.len : ∀ {kvs : List (Key × V)} {ds : List (PyData × PyData)}, DtKv K mu H kvs ds → kvs.length = ds.length
  | _, _, .nil => rfl
  | _, _, .cons _ t => by rw [List.length_cons, List.length_cons, DtKv.len t]
theorem DtKT.any (k : List Key) : ∀ {kvs : List (List Key × V)} {ds : List (List Key × PyData)}, DtKT K mu H kvs ds → (kvs.any fun p => decide (p.1 = k)) = ds.any fun p => decide (p.1 = k)
  | _, _, .nil => rfl
  | _, _, .cons _ t => by rw [List.any_cons, List.any_cons, DtKT.any k t]
theorem DtKT.map (k : List Key) {v : V} {d : PyData} (h : Dt K mu H v d) : ∀ {kvs : List (List Key × V)} {ds : List (List Key × PyData)}, DtKT K mu H kvs ds → DtKT K mu H (kvs.map fun p => if p.1 = k then (p.1, v) else p) (ds.map fun p => if p.1 = k then (p.1, d) else p)
  | _, _, .nil => .nil
  | _, _, .cons (k := k') g t => by
    rw [List.map_cons, List.map_cons]
    dsimp only
    by_cases e : k' = k
    · rw [if_pos e, if_pos e]; exact .cons h (DtKT.map k h t)
    · rw [if_neg e, if_neg e]; exact .cons g (DtKT.map k h t)
theorem DtKT.app : ∀ {kvs ls : List (List Key × V)} {ds es : List (List Key × PyData)}, DtKT K mu H kvs ds → DtKT K mu H ls es → DtKT K mu H (kvs ++ ls) (ds ++ es)
  | _, _, _, _, .nil, h => h
  | _, _, _, _, .cons g t, h => .cons g (DtKT.app t h)
theorem DtKT.put (k : List Key) {v : V} {d : PyData} (h : Dt K mu H v d) {kvs : List (List Key × V)} {ds : List (List Key × PyData)} (t : DtKT K mu H kvs ds) : DtKT K mu H (putK kvs k v) (putL ds k d) := by
  unfold putK putL
  rw [t.any k]
  split
  · exact t.map k h
  · exact t.app (.cons h .nil)
theorem DtKv.any (k : Key) : ∀ {kvs : List (Key × V)} {ds : List (PyData × PyData)}, DtKv K mu H kvs ds → (kvs.any fun p => decide (p.1 = k)) = ds.any fun p => decide (kOf p.1 = some k)
  | _, _, .nil => rfl
  | _, _, .cons (k := k') _ t => by
    rw [List.any_cons, List.any_cons, DtKv.any k t]
    congr 1
    rw [kOf_kD]
    exact decide_eq_decide.mpr ⟨congrArg some, Option.some.inj⟩
theorem DtKv.mapK (k : Key) {v : V} {d : PyData} (h : Dt K mu H v d) : ∀ {kvs : List (Key × V)} {ds : List (PyData × PyData)}, DtKv K mu H kvs ds → DtKv K mu H (kvs.map fun p => if p.1 = k then (p.1, v) else p) (ds.map fun p => if kOf p.1 = some k then (p.1, d) else p)
  | _, _, .nil => .nil
  | _, _, .cons (k := k') g t => by
    rw [List.map_cons, List.map_cons]
    dsimp only
    rw [kOf_kD]
    by_cases e : k' = k
    · rw [if_pos e, if_pos (congrArg some e)]; exact .cons h (DtKv.mapK k h t)
    · rw [if_neg e, if_neg (fun z => e (Option.some.inj z))]; exact .cons g (DtKv.mapK k h t)
theorem DtKv.app : ∀ {kvs ls : List (Key × V)} {ds es : List (PyData × PyData)}, DtKv K mu H kvs ds → DtKv K mu H ls es → DtKv K mu H (kvs ++ ls) (ds ++ es)
  | _, _, _, _, .nil, h => h
  | _, _, _, _, .cons g t, h => .cons g (DtKv.app t h)
theorem DtKv.put (k : Key) {v : V} {d : PyData} (h : Dt K mu H v d) {kvs : List (Key × V)} {ds : List (PyData × PyData)} (t : DtKv K mu H kvs ds) : DtKv K mu H (putK kvs k v) (putF ds k d) := by
  unfold putK putF
  rw [t.any k]
  split
  · exact t.mapK k h
  · exact t.app (.cons h .nil)
end
/-! the entries of a dict by tuples, back from the tree -/
def unT : List (PyData × PyData) → Option (List (List Key × PyData))
  | [] => some []
  | (.tuple ds, d) :: r => (ksOf ds).bind fun k => (unT r).map ((k, d) :: ·)
  | _ => none
theorem unT_kvD : ∀ ds : List (List Key × PyData), unT (kvD ds) = some ds
  | [] => rfl
  | (k, d) :: r => by
    show unT ((.tuple (k.map kD), d) :: kvD r) = _
    unfold unT
    rw [ksOf_map, Option.bind_some, unT_kvD r]
    rfl
/-- a look into a dict: nothing where it is none, or the key is of no such kind -/
def lookD : PyData → PyData → Option (Option PyData)
  | .dict ((.none, .none) :: r), k => (keyT k).bind fun kk => (unT r).map fun ds => getL ds kk
  | .dict kvs, k => if realD kvs = true then (kOf k).map fun kk => getF kvs kk else none
  | _, _ => none
theorem lookD_t {ds : List (List Key × PyData)} {k : PyData} {kk : List Key} (h : keyT k = some kk) : lookD (.dict ((.none, .none) :: kvD ds)) k = some (getL ds kk) := by
  show ((keyT k).bind fun kk => (unT (kvD ds)).map fun ds => getL ds kk) = _
  rw [h, Option.bind_some, unT_kvD]
  rfl
section
variable {K : PySem.W.Frag} {mu : Addr → Prop} {H : Hp}
theorem DtKv.real {kvs : List (Key × V)} {ds : List (PyData × PyData)} (t : DtKv K mu H kvs ds) : realD ds = true ∧ ∀ k, lookD (.dict ds) k = (kOf k).map fun kk => getF ds kk := by
  cases t with
  | nil => exact ⟨rfl, fun k => rfl⟩
  | cons h t =>
    rename_i k v vs d ds
    cases k <;> exact ⟨rfl, fun k => rfl⟩
theorem look_ok {v y : V} {d k : PyData} {o : Option PyData} (t : Dt K mu H v d) (u : Dt K mu H y k) (e : lookD d k = some o) : ∃ a ov, v = .ref a ∧ DGet H a y ov ∧ IsD H a ∧ SameO K mu H ov o := by
  cases t with
  | dcT h n t =>
    have e : ((keyT k).bind fun kk => (unT (kvD _)).map fun ds => getL ds kk) = some o := e
    rw [unT_kvD] at e
    simp only [Option.bind_eq_some_iff, Option.map_some, Option.some.injEq] at e
    obtain ⟨kk, e1, rfl⟩ := e
    obtain ⟨b, rfl, hb⟩ := u.keyT e1
    exact ⟨_, _, rfl, DGet.t h hb, .inr ⟨_, .inl h⟩, t.get kk⟩
  | dct h n t =>
    rw [t.real.2] at e
    simp only [Option.map_eq_some_iff] at e
    obtain ⟨kk, e1, rfl⟩ := e
    obtain rfl := u.keyF e1
    exact ⟨_, _, rfl, DGet.k h, .inl ⟨_, .inl h⟩, t.get kk⟩
  | scr h t => simp [lookD, realD] at e
  | exc h n => simp [lookD, realD] at e
  | _ => cases e
end
def gGetD (d k : PyData) : Option PyData := (lookD d k).bind id
def gInD (neg : Bool) (k d : PyData) : Option PyData := (lookD d k).map fun o => .bool (if neg then o.isNone else o.isSome)
section
variable {X : Cx} {Z : Par} {a b e i o : Expr} {pos : Pos} {fo fi fe : DE}
theorem sameO_some {K : PySem.W.Frag} {mu : Addr → Prop} {H : Hp} {ov : Option V} {d : PyData} (h : SameO K mu H ov (some d)) : ∃ v, ov = some v ∧ Dt K mu H v d := by
  cases ov with
  | none => exact h.elim
  | some v => exact ⟨v, rfl, h⟩
theorem sameO_is {K : PySem.W.Frag} {mu : Addr → Prop} {H : Hp} {ov : Option V} {o : Option PyData} (h : SameO K mu H ov o) : ov.isSome = o.isSome := by
  cases ov <;> cases o <;> first | rfl | exact h.elim
/-- d[k], there -/
theorem dgetd (hu : X.A.units + 1 < cLine) (ho : PE X o (lft X.K Z fo)) (hi : PE X i (lft X.K Z fi)) (hs : NoSl i := by exact fun _ _ => rfl) : PE X (.Subscript o i pos) (lft X.K Z (dOp gGetD fo fi)) := PEimp (pe_dget hu ho hi hs) fun σ H Q h => by
  obtain ⟨M, s, d, s', rl, hf, k⟩ := h
  obtain ⟨d1, s1, d2, h1, h2, h3⟩ := dOp_some hf
  unfold gGetD at h3
  simp only [Option.bind_eq_some_iff, id] at h3
  obtain ⟨o, h4, rfl⟩ := h3
  refine ⟨M, s, d1, s1, rl, h1, fun x H1 k1 r1 t1 => ⟨M, s1, d2, s', r1, h2, fun y H2 k2 r2 t2 => ?_⟩⟩
  obtain ⟨a, ov, rfl, g, _, so⟩ := look_ok (t1.mono k2.kp) t2 h4
  obtain ⟨v, rfl, tv⟩ := sameO_some so
  exact ⟨a, v, rfl, g, k v H2 (k1.trans k2) r2 tv⟩
theorem lift_ind {neg : Bool} {σ : L2.St} {H : Hp} {Q : VK} (h : lft X.K Z (dOp (gInD neg) fi fo) σ H Q) : lft X.K Z fi σ H fun y H1 => lft X.K Z fo σ H1 fun x H2 => ∃ a ov, x = .ref a ∧ DGet H2 a y ov ∧ Q (.bl (if neg then !ov.isSome else ov.isSome)) H2 := by
  obtain ⟨M, s, d, s', rl, hf, k⟩ := h
  obtain ⟨d1, s1, d2, h1, h2, h3⟩ := dOp_some hf
  unfold gInD at h3
  simp only [Option.map_eq_some_iff] at h3
  obtain ⟨o, h4, rfl⟩ := h3
  refine ⟨M, s, d1, s1, rl, h1, fun x H1 k1 r1 t1 => ⟨M, s1, d2, s', r1, h2, fun y H2 k2 r2 t2 => ?_⟩⟩
  obtain ⟨a, ov, rfl, g, _, so⟩ := look_ok t2 (t1.mono k2.kp) h4
  refine ⟨a, ov, rfl, g, ?_⟩
  have e := sameO_is so
  cases o with
  | none =>
    have e' : ov.isSome = false := e
    rw [e']
    exact k _ H2 (k1.trans k2) r2 (.bl _)
  | some d =>
    have e' : ov.isSome = true := e
    rw [e']
    exact k _ H2 (k1.trans k2) r2 (.bl _)
/-- k in d, k not in d -/
theorem dind (hu : X.A.units + 1 < cLine) (hi : PE X i (lft X.K Z fi)) (ho : PE X o (lft X.K Z fo)) (hm : behindInMarks .In o = false := by with_unfolding_all rfl) : PE X (.Compare i [.In] [o] pos) (lft X.K Z (dOp (gInD false) fi fo)) := PEimp (pe_cmp (pc_din hu hi ho) hm) fun σ H Q h => lift_ind h
theorem dnotind (hu : X.A.units + 1 < cLine) (hi : PE X i (lft X.K Z fi)) (ho : PE X o (lft X.K Z fo)) (hm : behindInMarks .NotIn o = false := by with_unfolding_all rfl) : PE X (.Compare i [.NotIn] [o] pos) (lft X.K Z (dOp (gInD true) fi fo)) := PEimp (pe_cmp (pc_dnotin hu hi ho) hm) fun σ H Q h => lift_ind h
end

/-! tests -/
section
variable {X : Cx} {Z : Par} {a b e i o : Expr} {pos : Pos} {fo fi fe : DE}
theorem lift_indT {neg : Bool} {σ : L2.St} {H : Hp} {Q : Bool → Hp → Prop} (h : lfT X.K Z (dTst (dOp (gInD neg) fi fo)) σ H Q) : lft X.K Z (dOp (gInD neg) fi fo) σ H fun v H' => ∃ b, v = .bl b ∧ Q b H' := by
  obtain ⟨M, s, b, s', rl, hf, k⟩ := h
  exact ⟨M, s, .bool b, s', rl, dTst_some hf, fun v H' k1 r1 t1 => ⟨b, t1.bool, k H' k1 r1⟩⟩
theorem dtind (hu : X.A.units + 1 < cLine) (hi : PE X i (lft X.K Z fi)) (ho : PE X o (lft X.K Z fo)) (hm : behindInMarks .In o = false := by with_unfolding_all rfl) : PT X (.Compare i [.In] [o] pos) (lfT X.K Z (dTst (dOp (gInD false) fi fo))) := PTimp (pt_cmp (pc_din hu hi ho) hm) fun σ H Q h => by
  exact lift_ind (lift_indT h)
theorem dtnotind (hu : X.A.units + 1 < cLine) (hi : PE X i (lft X.K Z fi)) (ho : PE X o (lft X.K Z fo)) (hm : behindInMarks .NotIn o = false := by with_unfolding_all rfl) : PT X (.Compare i [.NotIn] [o] pos) (lfT X.K Z (dTst (dOp (gInD true) fi fo))) := PTimp (pt_cmp (pc_dnotin hu hi ho) hm) fun σ H Q h => by
  exact lift_ind (lift_indT h)
/-- d.get(k, x) -/
def dGet2 (fo fi fe : DE) : DE := fun s => (fo s).bind fun p => (fi p.2).bind fun q => (fe q.2).bind fun r => (lookD p.1 q.1).map fun o => (o.getD r.1, r.2)
theorem isD_of' {K : PySem.W.Frag} {mu : Addr → Prop} {H : Hp} {v : V} {d k : PyData} {o : Option PyData} (t : Dt K mu H v d) (e : lookD d k = some o) : ∃ a, v = .ref a ∧ IsD H a := by
  cases t with
  | dcT h n t => exact ⟨_, rfl, .inr ⟨_, .inl h⟩⟩
  | dct h n t => exact ⟨_, rfl, .inl ⟨_, .inl h⟩⟩
  | scr h t => simp [lookD, realD] at e
  | exc h n => simp [lookD, realD] at e
  | _ => cases e
theorem dget2 {apos cpos : Pos} (hu : X.A.units + 1 < cLine) (ho : PE X o (lft X.K Z fo)) (hi : PE X i (lft X.K Z fi)) (he : PE X e (lft X.K Z fe)) (m : M2 X o "get" apos i e cpos := by exact ⟨rfl, rfl, rfl, rfl⟩) : PE X (.Call (.Attribute o "get" apos) [i, e] [] cpos) (lft X.K Z (dGet2 fo fi fe)) := PEimp (pe_dget2 hu ho hi he m) fun σ H Q h => by
  obtain ⟨M, s, d, s', rl, hf, k⟩ := h
  unfold dGet2 at hf
  simp only [Option.bind_eq_some_iff, Option.map_eq_some_iff] at hf
  obtain ⟨⟨d1, s1⟩, h1, ⟨d2, s2⟩, h2, ⟨d3, s3⟩, h3, o', h4, h5⟩ := hf
  cases h5
  refine ⟨M, s, d1, s1, rl, h1, fun x H1 k1 r1 t1 => ?_⟩
  obtain ⟨a, rfl, hd⟩ := isD_of' t1 h4
  refine ⟨a, rfl, hd, M, s1, d2, s2, r1, h2, fun y H2 k2 r2 t2 => ⟨M, s2, d3, _, r2, h3, fun z H3 k3 r3 t3 => ?_⟩⟩
  obtain ⟨a', ov, ea, g, _, so⟩ := look_ok (t1.mono (k2.trans k3).kp) (t2.mono k3.kp) h4
  cases ea
  refine ⟨ov, g, ?_⟩
  cases o' with
  | none =>
    cases ov with
    | some v => exact so.elim
    | none => exact k _ H3 (k1.trans (k2.trans k3)) r3 t3
  | some d =>
    cases ov with
    | none => exact so.elim
    | some v => exact k _ H3 (k1.trans (k2.trans k3)) r3 so
end
/-! ### a name's own dict -/
section
variable {K : PySem.W.Frag} {Z : Par} {M M' : List Addr} {σ : L2.St} {H H' : Hp} {s s' : Sl} {p : Addr} {mu : Addr → Prop} {q : Option Addr}
theorem SlAll.setDic {a : Addr} {c : Ct} (h1 : CtOk K mu H a c) {σ : L2.St} {s : Sl} {M : List Addr} (t : SlAll K mu q H σ s M) :
    ∀ (i : Nat), i < s.length → a ∉ M → ∃ M', (∀ b ∈ M', b ∈ M ∨ b = a) ∧ SlAll K mu q H (σ.set i (some (.ref a))) (s.set i (.dic c)) M' := by
  have top : ∀ {σ : L2.St} {s : Sl} {M0 M : List Addr}, SlAll K mu q H σ s M → a ∉ M0 → (∀ b ∈ M, b ∈ M0) → ∃ M', (∀ b ∈ M', b ∈ M0 ∨ b = a) ∧ SlAll K mu q H (some (.ref a) :: σ) (.dic c :: s) M' := fun t n sub =>
    ⟨_, fun b hb => (List.mem_cons.mp hb).elim .inr fun z => .inl (sub b z), .dic h1 (fun z => n (sub _ z)) t⟩
  induction t with
  | nil => intro i hi _; exact absurd hi (Nat.not_lt_zero _)
  | dat h t ih =>
    intro i hi n
    cases i with
    | zero => exact top t n fun _ h => h
    | succ i =>
      obtain ⟨M', a1, b1⟩ := ih i (by simpa using hi) n
      exact ⟨M', a1, .dat h b1⟩
  | no t ih =>
    intro i hi n
    cases i with
    | zero => exact top t n fun _ h => h
    | succ i =>
      obtain ⟨M', a1, b1⟩ := ih i (by simpa using hi) n
      exact ⟨M', a1, .no b1⟩
  | pot e h d t ih =>
    intro i hi n
    cases i with
    | zero => exact top t n fun _ h => h
    | succ i =>
      obtain ⟨M', a1, b1⟩ := ih i (by simpa using hi) n
      exact ⟨M', a1, .pot e h d b1⟩
  | tab e h d f t ih =>
    intro i hi n
    cases i with
    | zero => exact top t n fun _ h => h
    | succ i =>
      obtain ⟨M', a1, b1⟩ := ih i (by simpa using hi) n
      exact ⟨M', a1, .tab e h d f b1⟩
  | @own c' ys es σ s M h d m t ih =>
    intro i hi n
    cases i with
    | zero => exact top t n fun _ h => List.mem_cons_of_mem _ h
    | succ i =>
      obtain ⟨M', a1, b1⟩ := ih i (by simpa using hi) (fun z => n (List.mem_cons_of_mem _ z))
      refine ⟨c' :: M', fun b hb => ?_, .own h d (fun z => (a1 _ z).elim m fun w => n (w ▸ List.mem_cons_self)) b1⟩
      rcases List.mem_cons.mp hb with z | z
      · exact .inl (z ▸ List.mem_cons_self)
      · exact (a1 b z).elim (fun w => .inl (List.mem_cons_of_mem _ w)) .inr
  | @dic c' ct σ s M h m t ih =>
    intro i hi n
    cases i with
    | zero => exact top t n fun _ h => List.mem_cons_of_mem _ h
    | succ i =>
      obtain ⟨M', a1, b1⟩ := ih i (by simpa using hi) (fun z => n (List.mem_cons_of_mem _ z))
      refine ⟨c' :: M', fun b hb => ?_, .dic h (fun z => (a1 _ z).elim m fun w => n (w ▸ List.mem_cons_self)) b1⟩
      rcases List.mem_cons.mp hb with z | z
      · exact .inl (z ▸ List.mem_cons_self)
      · exact (a1 b z).elim (fun w => .inl (List.mem_cons_of_mem _ w)) .inr
theorem Rel.dic (r : Rel K (Z.add p) M σ H s) (h0 : Z.H0 p = none) (hpp : Z.p ≠ some p) (hm : ¬ Z.m0 p) {c : Ct} (h1 : CtOk K (Mu (Z.add p) M) H p c) (i : Nat) (hi : i < s.length) :
    ∃ M', Rel K Z M' (σ.set i (some (.ref p))) H (s.set i (.dic c)) ∧ ∀ b ∈ M', b ∈ M ∨ b = p := by
  have n : p ∉ M := fun z => (r.fr p z).2.2.1 (.inr rfl)
  obtain ⟨M', a, b⟩ := r.sl.setDic h1 i hi n
  have k : Kp (Mu (Z.add p) M) H (Mu Z M') H := fun c u e nn => ⟨e, fun q => nn (mu_add.mpr (by
    rcases q with q | q | q
    · exact .inl (.inl q)
    · exact .inl (.inr (.inl q))
    · exact (a c q).elim (fun w => .inl (.inr (.inr w))) .inr))⟩
  refine ⟨M', ⟨r.base, fun c hc => ?_, fun a h => r.mz a (.inl h), r.pt, b.kp k (M := M') (fun _ _ _ e => e) (fun _ _ _ e => e) (fun _ h => h)⟩, a⟩
  rcases a c hc with h | h
  · obtain ⟨h1, h2, h3, h4⟩ := r.fr c h
    exact ⟨h1, h2, fun q => h3 (.inl q), h4⟩
  · subst h
    obtain ⟨o, e, _⟩ := h1.there
    exact ⟨h0, hpp, hm, o, e⟩
theorem SlAll.wrDic {c' : Ct} {a : Addr} (hk : Kp mu H mu H') (hs : ∀ b o, H b = some o → b ≠ a → H' b = some o) (h1 : CtOk K mu H' a c') (hq : q ≠ some a) {M : List Addr} (t : SlAll K mu q H σ s M) :
    ∀ (i : Nat) (c : Ct), s[i]? = some (.dic c) → σ[i]? = some (some (.ref a)) → SlAll K mu q H' σ (s.set i (.dic c')) M := by
  have rest : ∀ {σ : L2.St} {s : Sl} {M : List Addr}, a ∉ M → SlAll K mu q H σ s M → SlAll K mu q H' σ s M := fun {σ s M} n t =>
    t.kp hk (M := M) (fun b xs hb e => hs b _ e (fun z => n (z ▸ hb))) (fun b xs hb e => hs b _ e (fun z => hq (z ▸ hb))) (fun _ h => h)
  induction t with
  | nil => intro i ds e; simp at e
  | dat h t ih =>
    intro i ds e f
    cases i with
    | zero => simp at e
    | succ i => exact .dat (h.mono hk) (ih i ds (by simpa using e) (by simpa using f))
  | no t ih =>
    intro i ds e f
    cases i with
    | zero => simp at e
    | succ i => exact .no (ih i ds (by simpa using e) (by simpa using f))
  | pot e0 h d t ih =>
    intro i ds e f
    cases i with
    | zero => simp at e
    | succ i => exact .pot e0 (hs _ _ h (fun z => hq (z ▸ e0))) (d.mono hk) (ih i ds (by simpa using e) (by simpa using f))
  | tab e0 h d w t ih =>
    intro i ds e f
    cases i with
    | zero => simp at e
    | succ i => exact .tab e0 (hs _ _ h (fun z => hq (z ▸ e0))) d (fun pos cv z => let ⟨c, g1, g2, g3⟩ := w pos cv z; ⟨c, g1, (hk _ _ g2 g3).1, (hk _ _ g2 g3).2⟩) (ih i ds (by simpa using e) (by simpa using f))
  | @own c ys es σ s M h d m t ih =>
    intro i ds e f
    cases i with
    | zero => simp at e
    | succ i =>
      have nc : c ≠ a := fun z => by
        subst z
        obtain ⟨b, g1, g2, _⟩ := t.getDic (i := i) (by simpa using e)
        have : σ[i]? = some (some (.ref c)) := by simpa using f
        rw [this] at g1
        simp only [Option.some.injEq, V.ref.injEq] at g1
        exact m (g1 ▸ g2)
      exact .own (hs _ _ h nc) (d.mono hk) m (ih i ds (by simpa using e) (by simpa using f))
  | @dic c ct σ s M h m t ih =>
    intro i ds e f
    cases i with
    | zero =>
      simp at f
      subst f
      exact .dic h1 m (rest m t)
    | succ i =>
      have nc : c ≠ a := fun z => by
        subst z
        obtain ⟨b, g1, g2, _⟩ := t.getDic (i := i) (by simpa using e)
        have : σ[i]? = some (some (.ref c)) := by simpa using f
        rw [this] at g1
        simp only [Option.some.injEq, V.ref.injEq] at g1
        exact m (g1 ▸ g2)
      exact .dic (h.mono hk fun o e => hs _ _ e nc) m (ih i ds (by simpa using e) (by simpa using f))
theorem Rel.atD (r : Rel K Z M σ H s) {i : Nat} {c : Ct} (h : s[i]? = some (.dic c)) : ∃ a, σ[i]? = some (some (.ref a)) ∧ CtOk K (Mu Z M) H a c ∧ Mu Z M a ∧
    ∀ H' c', CtOk K (Mu Z M) H' a c' → (∀ b o, H b = some o → b ≠ a → H' b = some o) → Rel K Z M σ H' (s.set i (.dic c')) ∧ Kq Z M H M H' := by
  obtain ⟨a, h1, h2, h3⟩ := r.sl.getDic h
  have hmu : Mu Z M a := .inr (.inr h2)
  refine ⟨a, h1, h3, hmu, fun H' c' e1 e2 => ?_⟩
  have k : Kp (Mu Z M) H (Mu Z M) H' := fun b o e n => ⟨e2 b o e (fun z => n (z ▸ hmu)), n⟩
  obtain ⟨oa, eoa, _⟩ := e1.there
  have ex : ∀ b o, H b = some o → ∃ u, H' b = some u := fun b o e => by
    by_cases z : b = a
    · rw [z]; exact ⟨_, eoa⟩
    · exact ⟨o, e2 b o e z⟩
  refine ⟨⟨fun b o e n => e2 b o (r.base b o e n) (fun z => ?_), fun b hb => let ⟨f1, f2, f3, u, f4⟩ := r.fr b hb; ⟨f1, f2, f3, ex b u f4⟩, fun b hb => let ⟨u, f⟩ := r.mz b hb; ex b u f, fun b hb => let ⟨u, f⟩ := r.pt b hb; ex b u f, ?_⟩, fun b o e _ n => ⟨e2 b o e (fun z => n (z ▸ h2)), n⟩⟩
  · rw [z, (r.fr a h2).1] at e; cases e
  · exact r.sl.wrDic k e2 e1 (r.fr a h2).2.1 i c h h1
end

/-- x = {} -/
def sNewD (i : Nat) (c : Ct) : DS := fun s => if i < s.length then some (.nx (s.set i (.dic c))) else none
/-- x[k] = v, x a dict of one's own -/
def putC (c : Ct) (k d : PyData) : Option Ct := match c with
  | .kT ds => if ds.length < sizeLine then (keyT k).map fun kk => .kT (putL ds kk d) else none
  | .kK ds => if ds.length < sizeLine then (kOf k).map fun kk => .kK (putF ds kk d) else none
def dicAt (s : Sl) (i : Nat) : Option Ct := match s[i]? with
  | some (.dic c) => some c
  | _ => none
theorem dicAt_eq {s : Sl} {i : Nat} {c : Ct} (h : dicAt s i = some c) : s[i]? = some (.dic c) := by
  unfold dicAt at h
  split at h
  · cases h; assumption
  · cases h
def sPutD (i : Nat) (fv fk : DE) : DS := fun s => (fv s).bind fun p => (dicAt p.2 i).bind fun _ => (fk p.2).bind fun q => (dicAt q.2 i).bind fun c => (putC c q.1 p.1).map fun c' => .nx (q.2.set i (.dic c'))
def ctD : Ct → PyData
  | .kT ds => .dict ((.none, .none) :: kvD ds)
  | .kK ds => .dict ds
/-- a name's own dict is data from here on -/
def sFrzD (i : Nat) : DS := fun s => (dicAt s i).map fun c => .nx (s.set i (.dat (ctD c)))
section
variable {X : Cx} {Z : Par} {a b e c : Expr} {pos : Pos} {fv fk : DE} {sts : List Stmt} {g : DS}
theorem newD_lift {i : Nat} {ct : Ct} {o : HO} {D : Ends} {σ : L2.St} {H : Hp} (h : lfS X.K Z (sNewD i ct) D σ H) (hc : ∀ mu H p, H p = some o → CtOk X.K mu H p ct) : ∀ p, H p = none → D.nx (σ.set i (some (.ref p))) (upd H p o) := fun p hp => by
  obtain ⟨M, s, fl, rl, h1, k⟩ := h
  unfold sNewD at h1
  split at h1
  case isFalse => cases h1
  rename_i hlt
  cases h1
  have npp : Z.p ≠ some p := fun z => by
    obtain ⟨o, e⟩ := rl.pt p z
    rw [hp] at e; cases e
  have n0 : Z.H0 p = none := by
    cases q : Z.H0 p with
    | none => rfl
    | some o =>
      have := rl.base p o q npp
      rw [hp] at this; cases this
  have nm : ¬ Z.m0 p := fun z => by
    obtain ⟨o, e⟩ := rl.mz p z
    rw [hp] at e; cases e
  have r1 := rl.addNew hp o
  obtain ⟨M', r2, k2⟩ := r1.dic n0 npp nm (hc _ _ p upd_same) i hlt
  exact k M' _ _ (fun c u e n1 n2 => ⟨grow_new hp c u e, fun z => (k2 c z).elim n2 (ne_of_none e hp)⟩) r2
theorem snewT {i : Nat} {x : Str} {pos' p2 : Pos} (hN : X.N.Nodup) (hi : X.N[i]? = some x) (hx : Loc X.env.scope x) (hs : swapsWith (.Dict [] [] p2) (some (.Name x pos')) pos.line X.env = pure false := by rfl)
    (hf : X.fn x = true ∨ X.env.scope.names.lookup x = some .local := by first | exact .inl rfl | exact .inr rfl | assumption) : PS X (.Assign [.Name x pos'] (.Dict [] [] p2) pos) (lfS X.K Z (sNewD i (.kT []))) := PSimp (ps_set hN hi hx pe_dnewT hs hf) fun D σ H h =>
  newD_lift h fun mu H p e => ⟨[], e, .nil⟩
theorem snewK {i : Nat} {x : Str} {pos' p2 : Pos} (hN : X.N.Nodup) (hi : X.N[i]? = some x) (hx : Loc X.env.scope x) (hs : swapsWith (.Dict [] [] p2) (some (.Name x pos')) pos.line X.env = pure false := by rfl)
    (hf : X.fn x = true ∨ X.env.scope.names.lookup x = some .local := by first | exact .inl rfl | exact .inr rfl | assumption) : PS X (.Assign [.Name x pos'] (.Dict [] [] p2) pos) (lfS X.K Z (sNewD i (.kK []))) := PSimp (ps_set hN hi hx pe_dnewK hs hf) fun D σ H h =>
  newD_lift h fun mu H p e => ⟨[], e, .nil⟩
theorem sputD (i : Nat) {pos' : Pos} (hu : X.A.units + 1 < cLine) (hv : PE X e (lft X.K Z fv)) (ha : PE X a (tVar i)) (hk : PE X c (lft X.K Z fk)) (hs : swapsWith e (some (.Subscript a c pos')) pos.line X.env = pure false := by rfl) :
    PS X (.Assign [.Subscript a c pos'] e pos) (lfS X.K Z (sPutD i fv fk)) := PSimp (ps_dput hu ha hk hv hs) fun D σ H h => by
  obtain ⟨M, s, fl, rl, hf, k⟩ := h
  unfold sPutD at hf
  simp only [Option.bind_eq_some_iff, Option.map_eq_some_iff] at hf
  obtain ⟨⟨d1, s1⟩, h1, c0, h2, ⟨d2, s2⟩, h3, c1, h4, c2, h5, h6⟩ := hf
  cases h6
  refine ⟨M, s, d1, s1, rl, h1, fun v H1 k1 r1 t1 => ?_⟩
  obtain ⟨a0, g1, _⟩ := r1.atD (dicAt_eq h2)
  refine ⟨.ref a0, g1, M, s1, d2, s2, r1, h3, fun y H2 k2 r2 t2 => ?_⟩
  obtain ⟨a1, g2, ct, mua, up⟩ := r2.atD (dicAt_eq h4)
  rw [g1] at g2
  cases g2
  have t1' := t1.mono k2.kp
  unfold putC at h5
  split at h5
  · split at h5
    · rename_i ds few
      simp only [Option.map_eq_some_iff] at h5
      obtain ⟨kk, e1, rfl⟩ := h5
      obtain ⟨kvs, e2, t⟩ := ct
      obtain ⟨b, rfl, hb⟩ := t2.keyT e1
      have kp : Kp (Mu Z M) H2 (Mu Z M) (upd H2 a0 (.dT (putK kvs kk v))) := fun b o e n => ⟨upd_lst b o e (fun z => n (by subst z; assumption)), n⟩
      obtain ⟨r3, k3⟩ := up (upd H2 a0 (.dT (putK kvs kk v))) (.kT (putL ds kk d1)) ⟨_, upd_same, (t.put kk t1').mono kp⟩ upd_lst
      exact ⟨a0, _, rfl, DPut.t e2 hb (by rw [t.len]; exact few), k M σ _ (k1.trans (k2.trans k3)) r3⟩
    · cases h5
  · split at h5
    · rename_i ds few
      simp only [Option.map_eq_some_iff] at h5
      obtain ⟨kk, e1, rfl⟩ := h5
      obtain ⟨kvs, e2, t⟩ := ct
      obtain rfl := t2.keyF e1
      have kp : Kp (Mu Z M) H2 (Mu Z M) (upd H2 a0 (.dK (putK kvs kk v))) := fun b o e n => ⟨upd_lst b o e (fun z => n (by subst z; assumption)), n⟩
      obtain ⟨r3, k3⟩ := up (upd H2 a0 (.dK (putK kvs kk v))) (.kK (putF ds kk d1)) ⟨_, upd_same, (t.put kk t1').mono kp⟩ upd_lst
      exact ⟨a0, _, rfl, DPut.k e2 (by rw [t.len]; exact few), k M σ _ (k1.trans (k2.trans k3)) r3⟩
    · cases h5
theorem CtOk.dt {K : PySem.W.Frag} {mu : Addr → Prop} {H : Hp} {a : Addr} {c : Ct} (h : CtOk K mu H a c) (n : ¬ mu a) : Dt K mu H (.ref a) (ctD c) := by
  cases c with
  | kT ds =>
    obtain ⟨kvs, e, t⟩ := h
    exact .dcT e n t
  | kK ds =>
    obtain ⟨kvs, e, t⟩ := h
    exact .dct e n t
theorem SlAll.frzD {K : PySem.W.Frag} {mu : Addr → Prop} {q : Option Addr} {H : Hp} {ct : Ct} {σ : L2.St} {s : Sl} {M : List Addr} (t : SlAll K mu q H σ s M) : ∀ (i : Nat), s[i]? = some (.dic ct) →
    ∃ a M', σ[i]? = some (some (.ref a)) ∧ CtOk K mu H a ct ∧ a ∈ M ∧ a ∉ M' ∧ (∀ b ∈ M', b ∈ M) ∧ (∀ mu', (∀ b, mu' b → mu b) → ¬ mu' a → SlAll K mu' q H σ (s.set i (.dat (ctD ct))) M') := by
  induction t with
  | nil => intro i e; simp at e
  | dat h t ih =>
    intro i e
    cases i with
    | zero => simp at e
    | succ i =>
      obtain ⟨a, M', h1, h2, h4, h5, h6, h7⟩ := ih i (by simpa using e)
      exact ⟨a, M', by simpa using h1, h2, h4, h5, h6, fun mu' hs hn => .dat (h.mono fun c u e nn => ⟨e, fun z => nn (hs c z)⟩) (h7 mu' hs hn)⟩
  | no t ih =>
    intro i e
    cases i with
    | zero => simp at e
    | succ i =>
      obtain ⟨a, M', h1, h2, h4, h5, h6, h7⟩ := ih i (by simpa using e)
      exact ⟨a, M', by simpa using h1, h2, h4, h5, h6, fun mu' hs hn => .no (h7 mu' hs hn)⟩
  | pot e1 h d t ih =>
    intro i e
    cases i with
    | zero => simp at e
    | succ i =>
      obtain ⟨a, M', h1, h2, h4, h5, h6, h7⟩ := ih i (by simpa using e)
      exact ⟨a, M', by simpa using h1, h2, h4, h5, h6, fun mu' hs hn => .pot e1 h (d.mono fun c u e nn => ⟨e, fun z => nn (hs c z)⟩) (h7 mu' hs hn)⟩
  | tab e1 h d f t ih =>
    intro i e
    cases i with
    | zero => simp at e
    | succ i =>
      obtain ⟨a, M', h1, h2, h4, h5, h6, h7⟩ := ih i (by simpa using e)
      exact ⟨a, M', by simpa using h1, h2, h4, h5, h6, fun mu' hs hn => .tab e1 h d (fun pos cv z => let ⟨c, g1, g2, g3⟩ := f pos cv z; ⟨c, g1, g2, fun w => g3 (hs c w)⟩) (h7 mu' hs hn)⟩
  | @own c ys es σ s M h d n t ih =>
    intro i e
    cases i with
    | zero => simp at e
    | succ i =>
      obtain ⟨a, M', h1, h2, h4, h5, h6, h7⟩ := ih i (by simpa using e)
      refine ⟨a, c :: M', by simpa using h1, h2, List.mem_cons_of_mem _ h4, fun z => (List.mem_cons.mp z).elim (fun w => n (w ▸ h4)) h5, fun b hb => (List.mem_cons.mp hb).elim (fun w => w ▸ List.mem_cons_self) fun w => List.mem_cons_of_mem _ (h6 b w), fun mu' hs hn => ?_⟩
      exact .own h (d.mono fun c u e nn => ⟨e, fun z => nn (hs c z)⟩) (fun z => n (h6 c z)) (h7 mu' hs hn)
  | @dic c ct' σ s M h n t ih =>
    intro i e
    cases i with
    | zero =>
      simp at e
      subst e
      refine ⟨c, M, rfl, h, List.mem_cons_self, n, fun b hb => List.mem_cons_of_mem _ hb, fun mu' hs hn => ?_⟩
      have k : Kp mu H mu' H := fun c u e nn => ⟨e, fun z => nn (hs c z)⟩
      exact .dat ((h.mono k fun _ e => e).dt hn) (t.kp k (fun _ _ _ e => e) (fun _ _ _ e => e) (fun _ h => h))
    | succ i =>
      obtain ⟨a, M', h1, h2, h4, h5, h6, h7⟩ := ih i (by simpa using e)
      refine ⟨a, c :: M', by simpa using h1, h2, List.mem_cons_of_mem _ h4, fun z => (List.mem_cons.mp z).elim (fun w => n (w ▸ h4)) h5, fun b hb => (List.mem_cons.mp hb).elim (fun w => w ▸ List.mem_cons_self) fun w => List.mem_cons_of_mem _ (h6 b w), fun mu' hs hn => ?_⟩
      exact .dic (h.mono (fun c u e nn => ⟨e, fun z => nn (hs c z)⟩) fun _ e => e) (fun z => n (h6 c z)) (h7 mu' hs hn)
theorem sfrzD {i : Nat} (h : PSs X sts (lfS X.K Z g)) : PSs X sts (lfS X.K Z (sSeq (sFrzD i) g)) := PSsimp h fun D σ H h => by
  obtain ⟨M, s, fl, rl, h1, k⟩ := h
  unfold sSeq sFrzD at h1
  simp only [Option.bind_eq_some_iff, Option.map_eq_some_iff] at h1
  obtain ⟨fl1, ⟨ct, h1, rfl⟩, h2⟩ := h1
  obtain ⟨a, M', g1, g2, g4, g5, g6, g7⟩ := rl.sl.frzD i (dicAt_eq h1)
  have sub : ∀ b, Mu Z M' b → Mu Z M b := fun b hb => by
    rcases hb with hb | hb | hb
    · exact .inl hb
    · exact .inr (.inl hb)
    · exact .inr (.inr (g6 b hb))
  have na : ¬ Mu Z M' a := fun hb => by
    rcases hb with hb | hb | hb
    · exact (rl.fr a g4).2.2.1 hb
    · exact (rl.fr a g4).2.1 hb
    · exact g5 hb
  have kk : Kq Z M H M' H := fun c u e _ nn => ⟨e, fun z => nn (g6 c z)⟩
  exact ⟨M', _, fl, ⟨rl.base, fun b hb => rl.fr b (g6 b hb), rl.mz, rl.pt, g7 _ sub na⟩, h2, k.mono kk⟩
end
/-! rules from the outside in -/
section
variable {N : Sl → Prop} {R : PyData → Sl → Prop} {s : Sl} {i : Nat} {fv fk fo fi fe : DE} {c c0 : Ct} {Q : PyData → Sl → Prop}
theorem s_newD (h : i < s.length) (k : N (s.set i (.dic c))) : Gs (sNewD i c s) N R := ⟨.inl ⟨_, by unfold sNewD; rw [if_pos h], k⟩⟩
theorem s_putD (h : Ge (fv s) fun d s1 => ∃ c0, dicAt s1 i = some c0 ∧ Ge (fk s1) fun k s2 => ∃ c, dicAt s2 i = some c ∧ Gd (putC c k d) fun c' => N (s2.set i (.dic c'))) : Gs (sPutD i fv fk s) N R := by
  obtain ⟨d, s1, e1, c0, e2, k, s2, e3, c, e4, c', e5, q⟩ := h
  exact ⟨.inl ⟨_, by unfold sPutD; rw [e1, Option.bind_some, e2, Option.bind_some, e3, Option.bind_some, e4, Option.bind_some, e5]; rfl, q⟩⟩
theorem s_frzD (h : dicAt s i = some c) (k : N (s.set i (.dat (ctD c)))) : Gs (sFrzD i s) N R := ⟨.inl ⟨_, by unfold sFrzD; rw [h]; rfl, k⟩⟩
theorem e_get2 (h : Ge (fo s) fun d s1 => Ge (fi s1) fun k s2 => Ge (fe s2) fun x s3 => Gd (lookD d k) fun o => Q (o.getD x) s3) : Ge (dGet2 fo fi fe s) Q := by
  obtain ⟨d, s1, e1, k, s2, e2, x, s3, e3, o, e4, q⟩ := h
  exact ⟨_, s3, by unfold dGet2; rw [e1, Option.bind_some, e2, Option.bind_some, e3, Option.bind_some, e4]; rfl, q⟩
end
end Dl

namespace Dl
open PySem PySem.Spec PyProof.Rows L2
/-! ### repr, with dicts by tuples among the parts -/
/-- as it is shown -/
def unM : PyData → PyData
  | .dict ((.none, .none) :: r) => .dict r
  | d => d
/-- what may be shown: data, or a dict by tuples of data -/
def realM : PyData → Bool
  | .dict ((.none, .none) :: r) => (unT r).isSome && realAlls (r.map (·.2))
  | d => realAll d
section
variable {X : Cx} {pins : List (Addr × Obj)} {σ : L2.St} {H : Hp} {s : Shared} {mu : Addr → Prop}
theorem reads_keys {ks : List Key} {us : List Value} (r : Vals (ks.map kV) us) : ReadsAll s.heap us (ks.map kD) [] := by
  induction ks generalizing us with
  | nil => cases r; exact .nil
  | cons k ks ih =>
    rw [List.map_cons] at r
    cases r with
    | cons h t =>
      rw [List.map_cons]
      cases k with
      | inl i => obtain ⟨t', rfl⟩ := (show ∃ t, _ = Value.int i t from h); exact .cons (as := []) (.int i t') (ih t)
      | inr x => obtain ⟨t', rfl⟩ := (show ∃ t, _ = Value.str x t from h); exact .cons (as := []) (.str x t') (ih t)
theorem readsKT_of (I : Inv X pins σ H s) (c : CG X) {knd : HeapKind X.prog X.w (List Key)} : ∀ {kvs : List (List Key × V)} {xs : List (List Key × Addr × Value)} {ds : List (List Key × PyData)}, DtKT X.K mu H kvs ds →
    Paired (fun (p : List Key × V) (q : List Key × Addr × Value) => p.1 = q.1 ∧ H q.2.1 = some (.tup (p.1.map kV)) ∧ RelV p.2 q.2.2) kvs xs → realAlls (ds.map (·.2)) = true →
    ∃ bs, ReadsAll s.heap ((xs.map (entryOfKey knd)).map (·.key)) ((kvD ds).map (·.1)) [] ∧ ReadsAll s.heap ((xs.map (entryOfKey knd)).map (·.val)) ((kvD ds).map (·.2)) bs ∧ sysModules ∉ bs
  | _, _, _, .nil, r, _ => by cases r; exact ⟨[], .nil, .nil, by simp⟩
  | _, _, _, .cons (k := k) (d := d) (ds := dr) h t, .cons (b := q) r1 r2, g => by
    obtain ⟨k', b, u⟩ := q
    obtain ⟨e1, e2, e3⟩ := r1
    have g' : realAll d = true ∧ realAlls (dr.map (·.2)) = true := by
      rw [List.map_cons, realAlls, Bool.and_eq_true] at g; exact g
    obtain ⟨bs, h1, h2, h3⟩ := readsKT_of I c (knd := knd) t r2 g'.2
    obtain ⟨cs, h4, h5⟩ := reads_of I c h e3 g'.1
    obtain ⟨its, rk, ⟨o, q1, q2, n, q3⟩, _⟩ := I.tuple (.inl (.inl e2))
    refine ⟨cs ++ bs, ?_, ?_, by simp [h5, h3]⟩
    · exact .cons (as := []) (.tuple q1 q2 q3 (by simpa using reads_keys rk)) h1
    · exact .cons h4 h2
theorem unM_kv {K : PySem.W.Frag} {kvs : List (Key × V)} {ds : List (PyData × PyData)} (t : DtKv K mu H kvs ds) : unM (.dict ds) = .dict ds ∧ realM (.dict ds) = realAll (.dict ds) := by
  cases t with
  | nil => exact ⟨rfl, rfl⟩
  | cons h t =>
    rename_i k v vs d ds
    cases k <;> exact ⟨rfl, rfl⟩
theorem reads1_of (I : Inv X pins σ H s) (c : CG X) {v : V} {u : Value} {d : PyData} (t : Dt X.K mu H v d) (r : RelV v u) (g : realM d = true) : ∃ as, Reads s.heap u (unM d) as ∧ sysModules ∉ as := by
  cases t with
  | dcT h n t =>
    rename_i a kvs ds
    cases r
    have g' : realAlls (ds.map (·.2)) = true := by
      have : ((unT (kvD ds)).isSome && realAlls ((kvD ds).map (·.2))) = true := g
      rw [Bool.and_eq_true] at this
      have e : (kvD ds).map (·.2) = ds.map (·.2) := by unfold kvD; rw [List.map_map]; rfl
      rw [← e]; exact this.2
    obtain ⟨z, ns, xs, kv, o, es, ep, q1, q2, q3, q4, q5⟩ := I.hok _ _ h
    obtain ⟨bs, h1, h2, h3⟩ := readsKT_of I c t kv g'
    rw [← q4] at h1 h2
    refine ⟨_, .dict q1 q2.1 q3 h1 h2, ?_⟩
    have no : sysModules ≠ a := fun e => (by rw [← e] at ns; simp at ns)
    simp [h3, no]
  | dct h n t =>
    rw [(unM_kv t).1]
    exact reads_of I c (.dct h n t) r ((unM_kv t).2 ▸ g)
  | scr h t => exact absurd g (by simp [realM, realAll, realKvs])
  | exc h n => exact absurd g (by simp [realM, realAll, realKvs])
  | non => exact reads_of (mu := mu) I c .non r g
  | bl b => exact reads_of (mu := mu) I c (.bl b) r g
  | int i => exact reads_of (mu := mu) I c (.int i) r g
  | str x => exact reads_of (mu := mu) I c (.str x) r g
  | lst h n t => exact reads_of I c (.lst h n t) r g
  | tup h n t => exact reads_of I c (.tup h n t) r g
  | tupK h z t => exact reads_of I c (.tupK h z t) r g
theorem readsM_of (I : Inv X pins σ H s) (c : CG X) : ∀ {vs : List V} {us : List Value} {ds : List PyData}, DtAll X.K mu H vs ds → Vals vs us → ds.all realM = true → ∃ as, ReadsAll s.heap us (ds.map unM) as ∧ sysModules ∉ as
  | _, _, _, .nil, r, _ => by cases r; exact ⟨[], .nil, by simp⟩
  | _, _, _, .cons h t, .cons r1 r2, g => by
    rw [List.all_cons, Bool.and_eq_true] at g
    obtain ⟨as, h1, h2⟩ := reads1_of I c h r1 g.1
    obtain ⟨bs, h3, h4⟩ := readsM_of I c t r2 g.2
    exact ⟨as ++ bs, .cons h1 h3, by simp [h2, h4]⟩
end
/-- the text of a tuple some of whose items may be dicts by tuples -/
def gReprT : List PyData → Option PyData
  | [.tuple ds] => if (((PyData.tuple (ds.map unM)).showable && ds.all realM) && (decide ((PyData.tuple (ds.map unM)).shown.length ≤ sizeLine) && decide ((PyData.tuple (ds.map unM)).depth ≤ 60))) = true then some (.str (PyData.tuple (ds.map unM)).shown) else none
  | _ => none
def rReprT (K : PySem.W.Frag) : List V → Hp → VK → Prop := fun xs H Q => ∃ mu ds, DtAll K mu H xs [.tuple ds] ∧ (((PyData.tuple (ds.map unM)).showable && ds.all realM) && (decide ((PyData.tuple (ds.map unM)).shown.length ≤ sizeLine) && decide ((PyData.tuple (ds.map unM)).depth ≤ 60))) = true ∧ Q (.str (PyData.tuple (ds.map unM)).shown) H
theorem call_reprT {X : Cx} (c : CG X) : CallR X (.builtin "repr") (rReprT X.K) := by
  rintro pins s σ H xs us Q I r ⟨mu, ds, t, g, q⟩
  simp only [Bool.and_eq_true, decide_eq_true_eq] at g
  obtain ⟨⟨g1, g2⟩, g3, g4⟩ := g
  cases t with
  | cons h t =>
  cases t
  cases r with
  | cons r1 r2 =>
  cases r2
  obtain ⟨a, ys, rfl, hq, u⟩ := h.tuple
  cases r1
  obtain ⟨its, rv, ⟨o, q1, q2, n, q3⟩, _⟩ := I.tuple hq
  obtain ⟨as, h1, h2⟩ := readsM_of I c u rv g2
  have rd : Reads s.heap (.ref a) (.tuple (ds.map unM)) as := .tuple q1 q2 q3 (by simpa using h1)
  exact repr_of_reads' rd g1 (fun _ => h2) c.gd (by have := c.un; omega) (fun _ _ e => e) (fun h' u tk hk => ⟨.str (PyData.tuple (ds.map unM)).shown, H, I.kept hk, ⟨_, rfl⟩, q⟩) g3
theorem ok_reprT {K : PySem.W.Frag} : CallOk K (rReprT K) gReprT := fun mu H xs ds d Q _ t e k => by
  unfold gReprT at e
  split at e
  · split at e
    case isFalse => cases e
    rename_i hg
    cases e
    exact ⟨mu, _, t, hg, k _ H (fun _ _ z => z) (.str _)⟩
  · cases e
/-! ### dict(..) of pairs -/
def pairsOf : List PyData → Option (List (Key × PyData))
  | [] => some []
  | .tuple [k, d] :: r => (kOf k).bind fun kk => (pairsOf r).map ((kk, d) :: ·)
  | _ => none
def mergeF (ds : List (PyData × PyData)) (more : List (Key × PyData)) : List (PyData × PyData) := more.foldl (fun acc p => putF acc p.1 p.2) ds
def gDictP : List PyData → Option PyData
  | [.list ds] => (pairsOf ds).map fun ps => .dict (mergeF [] ps)
  | _ => none
section
variable {K : PySem.W.Frag} {mu : Addr → Prop} {H : Hp}
theorem pairs_ok : ∀ {xs : List V} {ds : List PyData} {prs : List (Key × PyData)}, DtAll K mu H xs ds → pairsOf ds = some prs →
    ∃ (ps : List Addr) (kvs : List (Key × V)), xs = ps.map V.ref ∧ Paired (fun p kv => SqT K H p [kV kv.1, kv.2]) ps kvs ∧ DtKv K mu H kvs (prs.map fun p => (kD p.1, p.2))
  | _, [], _, .nil, e => by cases e; exact ⟨[], [], rfl, .nil, .nil⟩
  | _, d :: r, prs, .cons h t, e => by
    unfold pairsOf at e
    split at e
    · rename_i q; cases q
    · rename_i k d' r' q
      cases q
      simp only [Option.bind_eq_some_iff, Option.map_eq_some_iff] at e
      obtain ⟨kk, e1, prs', e2, rfl⟩ := e
      obtain ⟨ps, kvs, rfl, pr, dk⟩ := pairs_ok t e2
      obtain ⟨a, ys, rfl, hq, u⟩ := h.tuple
      cases u with
      | cons u1 u2 =>
      cases u2 with
      | cons u3 u4 =>
      cases u4
      obtain rfl := u1.keyF e1
      exact ⟨a :: ps, (kk, _) :: kvs, rfl, .cons hq pr, .cons u3 dk⟩
    · cases e
theorem merge_ok : ∀ {kvs : List (Key × V)} {prs : List (Key × PyData)} {acc : List (Key × V)} {dacc : List (PyData × PyData)}, DtKv K mu H kvs (prs.map fun p => (kD p.1, p.2)) → DtKv K mu H acc dacc → DtKv K mu H (mergeK acc kvs) (mergeF dacc prs)
  | [], [], _, _, .nil, h => h
  | (k, v) :: kvs, (k2, d) :: prs, acc, dacc, t, h => by
    rw [List.map_cons] at t
    have hk : k = k2 ∧ Dt K mu H v d ∧ DtKv K mu H kvs (prs.map fun p => (kD p.1, p.2)) := by
      generalize e : (kD k2, d) = p at t
      cases t with
      | cons h1 h2 =>
        have e1 := congrArg Prod.fst e
        have e2 := congrArg Prod.snd e
        dsimp only at e1 e2
        subst e2
        have := kOf_kD k2
        rw [e1, kOf_kD] at this
        exact ⟨Option.some.inj this, h1, h2⟩
    obtain ⟨rfl, h1, h2⟩ := hk
    show DtKv K mu H (mergeK (putK acc k v) kvs) (mergeF (putF dacc k d) prs)
    exact merge_ok h2 (h.put k h1)
theorem ok_dictP : CallOk K (fun xs H Q => ∃ (a : Addr) (ps : List Addr) (kvs : List (Key × V)), xs = [.ref a] ∧ SqL K H a (ps.map V.ref) ∧ Paired (fun p kv => SqT K H p [kV kv.1, kv.2]) ps kvs ∧ ∀ p, H p = none → Q (.ref p) (upd H p (.dK (mergeK [] kvs)))) gDictP := fun mu H xs ds d Q hm t e k => by
  unfold gDictP at e
  split at e
  · simp only [Option.map_eq_some_iff] at e
    obtain ⟨prs, e1, rfl⟩ := e
    obtain ⟨x, rfl, t1⟩ := one_of t
    obtain ⟨a, ys, rfl, hq, u⟩ := t1.list
    obtain ⟨ps, kvs, rfl, pr, dk⟩ := pairs_ok u e1
    refine ⟨a, ps, kvs, rfl, hq, pr, fun p hp => k _ _ (grow_new hp) ?_⟩
    exact .dct upd_same (nomu_new hm hp) ((merge_ok dk .nil).mono (kp_grow (grow_new hp)))
  · cases e
end

/-! ### dicts that are written out -/
def lfE (K : PySem.W.Frag) (f : DE) : TE := fun σ H Q => ∃ Z, lft K Z f σ H Q
theorem pe_E {X : Cx} {e : Expr} {f : DE} (h : ∀ Z, PE X e (lft X.K Z f)) : PE X e (lfE X.K f) := ⟨fun pins s σ H Q I ⟨Z, q⟩ => (h Z).run pins s σ H Q I q⟩
def runP : List (DE × DE) → Sl → Option (List (PyData × PyData) × Sl)
  | [], s => some ([], s)
  | (f, g) :: r, s => (f s).bind fun p => (g p.2).bind fun q => (runP r q.2).map fun w => ((p.1, q.1) :: w.1, w.2)
inductive DtP (K : PySem.W.Frag) (mu : Addr → Prop) (H : Hp) : List (V × V) → List (PyData × PyData) → Prop
  | nil : DtP K mu H [] []
  | cons {x y : V} {a b : PyData} {ps : List (V × V)} {ds : List (PyData × PyData)} : Dt K mu H x a → Dt K mu H y b → DtP K mu H ps ds → DtP K mu H ((x, y) :: ps) ((a, b) :: ds)
theorem lift_pairs {K : PySem.W.Frag} {Z : Par} {M : List Addr} {σ : L2.St} : ∀ (fs : List (DE × DE)) {H : Hp} {s s' : Sl} {prs : List (PyData × PyData)} {Q : List (V × V) → Hp → Prop}, Rel K Z M σ H s → runP fs s = some (prs, s') →
    (∀ ps H', Kq Z M H M H' → Rel K Z M σ H' s' → DtP K (Mu Z M) H' ps prs → Q ps H') → tPairs (fs.map fun p => (lfE K p.1, lfE K p.2)) σ H Q
  | [], H, s, s', prs, Q, rl, e, k => by cases e; exact k [] H (Kq.refl _ _ _) rl .nil
  | (f, g) :: r, H, s, s', prs, Q, rl, e, k => by
    unfold runP at e
    simp only [Option.bind_eq_some_iff, Option.map_eq_some_iff] at e
    obtain ⟨⟨d1, s1⟩, e1, ⟨d2, s2⟩, e2, ⟨ws, s3⟩, e3, e4⟩ := e
    cases e4
    refine ⟨Z, M, s, d1, s1, rl, e1, fun x H1 k1 r1 t1 => ⟨Z, M, s1, d2, s2, r1, e2, fun y H2 k2 r2 t2 => ?_⟩⟩
    exact lift_pairs r r2 e3 fun ps H3 k3 r3 t3 => k _ H3 (k1.trans (k2.trans k3)) r3 (.cons (t1.mono (k2.trans k3).kp) (t2.mono k3.kp) t3)
def flatPs : List (PyData × PyData) → Option (List (Key × PyData))
  | [] => some []
  | (k, d) :: r => (kOf k).bind fun kk => (flatPs r).map ((kk, d) :: ·)
def tupPs : List (PyData × PyData) → Option (List (List Key × PyData))
  | [] => some []
  | (k, d) :: r => (keyT k).bind fun kk => (tupPs r).map ((kk, d) :: ·)
/-- {k: v, ..} by numbers and texts -/
def dDispK (fs : List (DE × DE)) : DE := fun s => (runP fs s).bind fun q => (flatPs q.1).bind fun ps => if ps.length ≤ 15 then some (.dict (mergeF [] ps), q.2) else none
/-- .. by tuples, no key twice -/
def dDispT (fs : List (DE × DE)) : DE := fun s => (runP fs s).bind fun q => (tupPs q.1).bind fun ps => if ps.length ≤ 15 ∧ (ps.map (·.1)).Nodup then some (.dict ((.none, .none) :: kvD ps), q.2) else none
theorem DtP.flat {K : PySem.W.Frag} {mu : Addr → Prop} {H : Hp} : ∀ {ps : List (V × V)} {ds : List (PyData × PyData)} {prs : List (Key × PyData)}, DtP K mu H ps ds → flatPs ds = some prs →
    ∃ kvs : List (Key × V), ps = kvs.map (fun kv => (kV kv.1, kv.2)) ∧ kvs.length = prs.length ∧ DtKv K mu H kvs (prs.map fun p => (kD p.1, p.2))
  | _, _, _, .nil, e => by cases e; exact ⟨[], rfl, rfl, .nil⟩
  | _, _, prs, .cons h g t, e => by
    unfold flatPs at e
    simp only [Option.bind_eq_some_iff, Option.map_eq_some_iff] at e
    obtain ⟨kk, e1, prs', e2, rfl⟩ := e
    obtain ⟨kvs, rfl, l, dk⟩ := t.flat e2
    obtain rfl := h.keyF e1
    exact ⟨(kk, _) :: kvs, rfl, by rw [List.length_cons, List.length_cons, l], .cons g dk⟩
theorem DtP.tup {K : PySem.W.Frag} {mu : Addr → Prop} {H : Hp} : ∀ {ps : List (V × V)} {ds : List (PyData × PyData)} {prs : List (List Key × PyData)}, DtP K mu H ps ds → tupPs ds = some prs →
    ∃ xs : List (List Key × Addr × V), ps = xs.map (fun x => (V.ref x.2.1, x.2.2)) ∧ (∀ x ∈ xs, H x.2.1 = some (.tup (x.1.map kV))) ∧ xs.map (·.1) = prs.map (·.1) ∧ DtKT K mu H (xs.map fun x => (x.1, x.2.2)) prs
  | _, _, _, .nil, e => by cases e; exact ⟨[], rfl, fun x hx => (by cases hx), rfl, .nil⟩
  | _, _, prs, .cons h g t, e => by
    unfold tupPs at e
    simp only [Option.bind_eq_some_iff, Option.map_eq_some_iff] at e
    obtain ⟨kk, e1, prs', e2, rfl⟩ := e
    obtain ⟨xs, rfl, hx, l, dk⟩ := t.tup e2
    obtain ⟨b, rfl, hb⟩ := h.keyT e1
    refine ⟨(kk, b, _) :: xs, rfl, fun x hm => ?_, by rw [List.map_cons, List.map_cons, l], .cons g dk⟩
    rcases List.mem_cons.mp hm with z | z
    · rw [z]; exact hb
    · exact hx x z
section
variable {X : Cx} {Z : Par} {pos : Pos} {keys : List (Option Expr)} {values : List Expr} {fs : List (DE × DE)}
theorem ddispK (h : PPs X pos keys values (fs.map fun p => (lfE X.K p.1, lfE X.K p.2))) (hall : keys.all (·.isSome) = true := by rfl) (hl : keys.length = values.length := by rfl) (h0 : keys ≠ [] := by exact fun z => by cases z) (h15 : keys.length ≤ 15 := by decide) :
    PE X (.Dict keys values pos) (lft X.K Z (dDispK fs)) := PEimp (pe_disp h hall hl h0 h15) fun σ H Q q => by
  obtain ⟨M, s, d, s', rl, hf, k⟩ := q
  unfold dDispK at hf
  simp only [Option.bind_eq_some_iff] at hf
  obtain ⟨⟨prs, s1⟩, e1, ps, e2, e3⟩ := hf
  dsimp only at e2 e3
  split at e3
  case isFalse => cases e3
  rename_i few
  cases e3
  intro p hp
  have npp : Z.p ≠ some p := fun z => by
    obtain ⟨o, e⟩ := rl.pt p z
    rw [hp] at e; cases e
  have nm : p ∉ M := fun z => by
    obtain ⟨_, _, _, o, e⟩ := rl.fr p z
    rw [hp] at e; cases e
  have n0 : Z.H0 p = none := by
    cases q : Z.H0 p with
    | none => rfl
    | some o =>
      have := rl.base p o q npp
      rw [hp] at this; cases this
  refine lift_pairs fs (rl.addNew hp (.dK [])) e1 fun vs H2 k2 r2 tp => ?_
  obtain ⟨kvs, rfl, l, dk⟩ := tp.flat e2
  have h2 : H2 p = some (.dK []) := (k2 p _ upd_same npp nm).1
  refine ⟨h2, kvs, rfl, by rw [l]; exact few, ?_⟩
  have r3 := (r2.wrAdd npp (.dK (mergeK [] kvs)) n0).unadd
  have np : ¬ Mu Z M p := fun z => by
    obtain ⟨o, e⟩ := rl.muT p z
    rw [hp] at e; cases e
  have kk : Kq Z M H M (upd H2 p (.dK (mergeK [] kvs))) := fun a o e n1 n2 => ⟨by
    have na := ne_of_none e hp
    rw [upd_ne na]
    exact (k2 a o (grow_new hp a o e) n1 n2).1, n2⟩
  refine k _ _ kk r3 (.dct upd_same np ?_)
  refine (merge_ok dk .nil).mono fun a o e n => ⟨?_, fun z => n (mu_add.mpr (.inl z))⟩
  have na : a ≠ p := fun z => n (mu_add.mpr (.inr z))
  rw [upd_ne na]
  exact e
def tDispT (trs : List (TE × TE)) : TE := fun σ H Q => ∀ p, H p = none → tPairs trs σ (upd H p (.dT [])) fun ps H2 => H2 p = some (.dT []) ∧ ∃ xs : List (List Key × Addr × V), ps = xs.map (fun x => (V.ref x.2.1, x.2.2)) ∧ (∀ x ∈ xs, H2 x.2.1 = some (.tup (x.1.map kV))) ∧
  (xs.map (·.1)).Nodup ∧ xs.length ≤ 15 ∧ Q (.ref p) (upd H2 p (.dT (xs.map fun x => (x.1, x.2.2))))
theorem carries_ofT {P : Program} {w : World} {H : Hp} {h : Heap} (ok : HOk P w H h) : ∀ {xs : List (List Key × Addr × V)} {ws : List (Value × Value)}, VV (xs.map fun x => (V.ref x.2.1, x.2.2)) ws → (∀ x ∈ xs, H x.2.1 = some (.tup (x.1.map kV))) →
    ∃ rs : List (List Key × Addr × Value), CarriesH (tupleKind (mixKind P w)) h ws rs ∧ rs.map (·.1) = xs.map (·.1) ∧ Paired (fun (p : List Key × V) (q : List Key × Addr × Value) => p.1 = q.1 ∧ H q.2.1 = some (.tup (p.1.map kV)) ∧ RelV p.2 q.2.2) (xs.map fun x => (x.1, x.2.2)) rs
  | [], _, r, _ => by rw [List.map_nil] at r; cases r; exact ⟨[], True.intro, rfl, .nil⟩
  | x :: xs, _, r, hx => by
    rw [List.map_cons] at r
    cases r with
    | @cons a b as bs h t =>
      obtain ⟨rs, c, m, q⟩ := carries_ofT ok t fun y hy => hx y (List.mem_cons_of_mem _ hy)
      obtain ⟨b1, b2⟩ := b
      have hb := hx x List.mem_cons_self
      exact ⟨(x.1, x.2.1, b2) :: rs, ⟨h.1, rfl, key_of ok hb, c⟩, by rw [List.map_cons, List.map_cons, m], .cons ⟨rfl, hb, h.2⟩ q⟩
theorem pe_dispT {trs : List (TE × TE)} (hu : X.A.units + 1 < cLine) (h : PPs X pos keys values trs) (hall : keys.all (·.isSome) = true) (hl : keys.length = values.length) (h0 : keys ≠ []) (h15 : keys.length ≤ 15) : PE X (.Dict keys values pos) (tDispT trs) := by
  refine ⟨fun pins s σ H Q I q => ?_⟩
  have hn := I.hok.fresh (Nat.le_refl s.heap.objs.size)
  have I1 := I.laid (a := s.heap.objs.size) (o := .dT []) (h' := s.heap.push { cls := .type "dict", data := .dict #[] }) (t' := s.toks) (fun _ _ q => Heap.get?_push_of_some _ q) (Nat.le_refl _) (dt_empty s.heap I.big)
  have hlen := pairTrees_length keys values X.env pos hall hl
  have hne : pairTrees keys values X.env pos ≠ [] := fun z => by
    rw [z] at hlen
    exact h0 (List.length_eq_zero_iff.mp hlen.symm)
  rw [arm_eval_Dict, zip_pairTrees keys values X.env pos hall hl, dictDisplay_pairs _ hne (by omega)]
  refine wpAny_bind (wpAny_standAt (wpAny_bind (wpAny_subDictH (knd := tupleKind (mixKind X.prog X.w)) (Q := fun d s' => wpAny (model X.prog X.w) X.A (pure (Value.ref d)) (EP X pins σ Q) X.xe s') ?_ (by omega)
    (thn (h.run pins _ σ _ _ I1 (q _ hn)) fun ws s2 ⟨ps, H2, I2, rel, e, xs, ep, hx, nd, few, q2⟩ => ?_))))
  · exact (show (tupleKind (mixKind X.prog X.w)).room X.A from by
      have : X.A.units < cLine := by omega
      exact this)
  · subst ep
    obtain ⟨rs, c, m, pr⟩ := carries_ofT I2.hok rel hx
    obtain ⟨z, hd, xs0, r0, dd⟩ := dt_of I2.hok e
    cases r0
    refine ⟨rs, c, dd, fun h' tk dd' hs => wpAny_pure ⟨.ref s.heap.objs.size, _, ?_, rfl, q2⟩⟩
    rw [storedAllH_nil_of_nodup rs (by rw [m]; exact nd)] at dd'
    obtain ⟨o, es, ep, h1, h2, h3, h4, h5, h6⟩ := dd'
    refine d_write I2 (by rw [e]; exact True.intro) hs ⟨o, h1⟩ ⟨by rw [List.length_map, sizeLine_eq]; omega, hd, rs, ?_, o, es, ep, h1, h2, h3, h4, h6⟩
    exact Paired.mapP pr fun p q r => ⟨r.1, by rw [upd_ne (ne_of r.2.1 e (fun z => nomatch z))]; exact r.2.1, r.2.2⟩
theorem ddispT (hu : X.A.units + 1 < cLine) (h : PPs X pos keys values (fs.map fun p => (lfE X.K p.1, lfE X.K p.2))) (hall : keys.all (·.isSome) = true := by rfl) (hl : keys.length = values.length := by rfl) (h0 : keys ≠ [] := by exact fun z => by cases z) (h15 : keys.length ≤ 15 := by decide) :
    PE X (.Dict keys values pos) (lft X.K Z (dDispT fs)) := PEimp (pe_dispT hu h hall hl h0 h15) fun σ H Q q => by
  obtain ⟨M, s, d, s', rl, hf, k⟩ := q
  unfold dDispT at hf
  simp only [Option.bind_eq_some_iff] at hf
  obtain ⟨⟨prs, s1⟩, e1, ps, e2, e3⟩ := hf
  dsimp only at e2 e3
  split at e3
  case isFalse => cases e3
  rename_i few
  cases e3
  intro p hp
  have npp : Z.p ≠ some p := fun z => by
    obtain ⟨o, e⟩ := rl.pt p z
    rw [hp] at e; cases e
  have nm : p ∉ M := fun z => by
    obtain ⟨_, _, _, o, e⟩ := rl.fr p z
    rw [hp] at e; cases e
  have n0 : Z.H0 p = none := by
    cases q : Z.H0 p with
    | none => rfl
    | some o =>
      have := rl.base p o q npp
      rw [hp] at this; cases this
  refine lift_pairs fs (rl.addNew hp (.dT [])) e1 fun vs H2 k2 r2 tp => ?_
  obtain ⟨xs, rfl, hx, l, dk⟩ := tp.tup e2
  have h2 : H2 p = some (.dT []) := (k2 p _ upd_same npp nm).1
  have ll : xs.length = ps.length := by have := congrArg List.length l; simpa using this
  refine ⟨h2, xs, rfl, hx, by rw [l]; exact few.2, by rw [ll]; exact few.1, ?_⟩
  have r3 := (r2.wrAdd npp (.dT (xs.map fun x => (x.1, x.2.2))) n0).unadd
  have np : ¬ Mu Z M p := fun z => by
    obtain ⟨o, e⟩ := rl.muT p z
    rw [hp] at e; cases e
  have kk : Kq Z M H M (upd H2 p (.dT (xs.map fun x => (x.1, x.2.2)))) := fun a o e n1 n2 => ⟨by
    have na := ne_of_none e hp
    rw [upd_ne na]
    exact (k2 a o (grow_new hp a o e) n1 n2).1, n2⟩
  refine k _ _ kk r3 (.dcT upd_same np ?_)
  refine dk.mono fun a o e n => ⟨?_, fun z => n (mu_add.mpr (.inl z))⟩
  have na : a ≠ p := fun z => n (mu_add.mpr (.inr z))
  rw [upd_ne na]
  exact e
end
end Dl

/-! ### defs with constants as defaults, called by places and by names -/
namespace Dl
open PySem PySem.Spec PyProof.Rows L2
def StdD (K : PySem.W.Frag) (mg : Str → Option Value) (x : Str) (st : Stmt) (dvs : List V) : Prop := ∃ (f : Addr) (fd : FuncData), FunD K x x (defArgs st) (defBody st) (defScope st) dvs [] f fd ∧ mg x = some (.ref f)
def CalD (P : Program) (w : World) (K : PySem.W.Frag) (mg : Str → Option Value) (base : Heap) (k : Nat) (x : Str) (st : Stmt) (ps : List Str) (sp : Sp) (dvs : List V) : Prop := ∃ (f : Addr) (fd : FuncData), FunD K x x (defArgs st) (defBody st) (defScope st) dvs [] f fd ∧ FnOk P w K mg base (L2.CX P w) k f fd ps sp ∧ mg x = some (.ref f)
/-- called by places, dvs filling up -/
def CalQ (P : Program) (w : World) (K : PySem.W.Frag) (mg : Str → Option Value) (base : Heap) (k : Nat) (x : Str) (ps : List Str) (sp : Sp) (dvs : List V) : Prop := ∃ (f : Addr) (fd : FuncData) (ds : List Value), FnOk P w K mg base (L2.CX P w) k f fd ps sp ∧ mg x = some (.ref f) ∧ PySem.W.keepIn K (.ref f) = true ∧ Vals dvs ds ∧ Binds K fd ps ds
/-- called by places and names -/
def CalK (P : Program) (w : World) (K : PySem.W.Frag) (mg : Str → Option Value) (base : Heap) (k : Nat) (x : Str) (ps : List Str) (sp : Sp) (n : Nat) (ks : List Str) (gV : List V → List V → List V) : Prop := ∃ (f : Addr) (fd : FuncData) (g : List Value → List Value → List Value), FnOk P w K mg base (L2.CX P w) k f fd ps sp ∧ mg x = some (.ref f) ∧ PySem.W.keepIn K (.ref f) = true ∧ KBn K fd ps n ks g gV
/-- which value stands where: 0 of the places, 1 of the defaults, 2 of the names -/
def pick {α : Type} (ps : List (Nat × Nat)) (us ds zs : List α) : List α := ps.filterMap fun c => match c.1 with
  | 0 => us[c.2]?
  | 1 => ds[c.2]?
  | _ => zs[c.2]?
theorem pair_get {α β : Type} {R : α → β → Prop} : ∀ {xs : List α} {us : List β} (_ : Paired R xs us) (i : Nat), (xs[i]? = none ∧ us[i]? = none) ∨ ∃ x u, xs[i]? = some x ∧ us[i]? = some u ∧ R x u
  | _, _, .nil, i => .inl ⟨by simp, by simp⟩
  | _, _, .cons r t, 0 => .inr ⟨_, _, rfl, rfl, r⟩
  | _, _, .cons r t, i + 1 => by
    rcases pair_get t i with ⟨a, b⟩ | ⟨x, u, a, b, c⟩
    · exact .inl ⟨by simpa using a, by simpa using b⟩
    · exact .inr ⟨x, u, by simpa using a, by simpa using b, c⟩
theorem dt_get {K : PySem.W.Frag} {mu : Addr → Prop} {H : Hp} : ∀ {xs : List V} {us : List PyData} (_ : DtAll K mu H xs us) (i : Nat), (xs[i]? = none ∧ us[i]? = none) ∨ ∃ x u, xs[i]? = some x ∧ us[i]? = some u ∧ Dt K mu H x u
  | _, _, .nil, i => .inl ⟨by simp, by simp⟩
  | _, _, .cons r t, 0 => .inr ⟨_, _, rfl, rfl, r⟩
  | _, _, .cons r t, i + 1 => by
    rcases dt_get t i with ⟨a, b⟩ | ⟨x, u, a, b, c⟩
    · exact .inl ⟨by simpa using a, by simpa using b⟩
    · exact .inr ⟨x, u, by simpa using a, by simpa using b, c⟩
theorem pair_pick {α β : Type} {R : α → β → Prop} {us ds zs : List α} {us' ds' zs' : List β} (a : Paired R us us') (b : Paired R ds ds') (c : Paired R zs zs') : ∀ ps : List (Nat × Nat), Paired R (pick ps us ds zs) (pick ps us' ds' zs')
  | [] => .nil
  | (m, i) :: ps => by
    have ih := pair_pick a b c ps
    unfold pick at ih ⊢
    have : ∀ {p : Option α} {q : Option β}, ((p = none ∧ q = none) ∨ ∃ x u, p = some x ∧ q = some u ∧ R x u) → ∀ {f : Nat × Nat → Option α} {g : Nat × Nat → Option β}, f (m, i) = p → g (m, i) = q → Paired R (ps.filterMap f) (ps.filterMap g) → Paired R (((m, i) :: ps).filterMap f) (((m, i) :: ps).filterMap g) := by
      intro p q h f g e1 e2 h2
      rcases h with ⟨rfl, rfl⟩ | ⟨x, u, rfl, rfl, r⟩
      · rw [List.filterMap_cons, List.filterMap_cons, e1, e2]; exact h2
      · rw [List.filterMap_cons, List.filterMap_cons, e1, e2]; exact .cons r h2
    match m with
    | 0 => exact this (pair_get a i) rfl rfl ih
    | 1 => exact this (pair_get b i) rfl rfl ih
    | m + 2 => exact this (pair_get c i) rfl rfl ih
theorem dt_pick {K : PySem.W.Frag} {mu : Addr → Prop} {H : Hp} {us ds zs : List V} {us' ds' zs' : List PyData} (a : DtAll K mu H us us') (b : DtAll K mu H ds ds') (c : DtAll K mu H zs zs') : ∀ ps : List (Nat × Nat), DtAll K mu H (pick ps us ds zs) (pick ps us' ds' zs')
  | [] => .nil
  | (m, i) :: ps => by
    have ih := dt_pick a b c ps
    unfold pick at ih ⊢
    have : ∀ {p : Option V} {q : Option PyData}, ((p = none ∧ q = none) ∨ ∃ x u, p = some x ∧ q = some u ∧ Dt K mu H x u) → ∀ {f : Nat × Nat → Option V} {g : Nat × Nat → Option PyData}, f (m, i) = p → g (m, i) = q → DtAll K mu H (ps.filterMap f) (ps.filterMap g) → DtAll K mu H (((m, i) :: ps).filterMap f) (((m, i) :: ps).filterMap g) := by
      intro p q h f g e1 e2 h2
      rcases h with ⟨rfl, rfl⟩ | ⟨x, u, rfl, rfl, r⟩
      · rw [List.filterMap_cons, List.filterMap_cons, e1, e2]; exact h2
      · rw [List.filterMap_cons, List.filterMap_cons, e1, e2]; exact .cons r h2
    match m with
    | 0 => exact this (dt_get a i) rfl rfl ih
    | 1 => exact this (dt_get b i) rfl rfl ih
    | m + 2 => exact this (dt_get c i) rfl rfl ih
section
variable {P : Program} {w : World} {K : PySem.W.Frag} {mg : Str → Option Value} {base : Heap}
theorem okXD {x qual : Str} {params : Arguments} {body : List Stmt} {scope : Scope} {dvs : List V} {kws : List (Str × V)} {f : Addr} {fd : FuncData} {N ps : List Str} {k : Nat} {b : DSx} (F : FunD K x qual params body scope dvs kws f fd) (S : FnScope N ps scope)
    (hb : ∀ (cdv : Value) (A : Around) (outer : List Env) (s : Shared) (H : Hp) (E : XK) (Z : Par), Room k (A.deeper (envOfC qual scope s.heap.objs.size f cdv)) → PSs (cxOf (L2.CX P w) P w K mg base N qual scope f cdv A outer s H E) body (lfSx K mg Z (fun cls d _ H => E cls d H) b)) :
    FnOk P w K mg base (L2.CX P w) (k + 1) f fd ps (spX K mg (fnX N ps.length b)) := by
  refine F.ok (CX := L2.CX P w) S (fun vs H Q E h => ?_) (fun cdv A outer s H vs Q E hr h => ?_)
  · obtain ⟨mu, ds, d, h1, h2, h3, h4⟩ := h
    unfold fnX at h3
    split at h3
    · rename_i hl
      rw [h2.len]; exact hl
    · cases h3
  · obtain ⟨mu, ds, d, h1, h2, h3, h4⟩ := h
    unfold fnX at h3
    split at h3
    case isFalse => cases h3
    rename_i hl
    let Z : Par := ⟨H, none, mu⟩
    refine ⟨_, hb cdv A outer s H E Z hr, [], startS N ds, ?_⟩
    have muE : ∀ a, Mu Z [] a → mu a := fun a q => by
      rcases q with q | q | q
      · exact q
      · cases q
      · cases q
    have r : Rel K Z [] (start N vs) H (startS N ds) := by
      refine ⟨fun a o e _ => e, fun a ha => (by cases ha), h1, fun a ha => (by cases ha), ?_⟩
      unfold startS L2.start
      rw [h2.len]
      exact slAll_start _ (h2.mono fun a o e n => ⟨e, fun z => n (muE a z)⟩)
    unfold outX at h3
    split at h3
    · rename_i d1 s1 hq
      cases h3
      refine ⟨_, r, hq, fun M σ H1 v k1 r1 t1 => h4 v H1 (fun a o e => r1.base a o e (fun z => by cases z)) (t1.mono fun a o e n => ⟨e, fun z => n (.inl z)⟩)⟩
    · rename_i s1 hq
      cases h3
      refine ⟨_, r, hq, fun M σ H1 k1 r1 => h4 _ H1 (fun a o e => r1.base a o e (fun z => by cases z)) .non⟩
    · rename_i c s1 hq
      cases h3
      exact ⟨_, r, hq, fun C M σ H' hm k1 r1 => h4 C H' hm fun a o e => r1.base a o e fun z => by cases z⟩
    · cases h3
theorem calD {x : Str} {st : Stmt} {N ps : List Str} {k : Nat} {b : DSx} {dvs : List V} (F : StdD K mg x st dvs) (S : FnScope N ps (defScope st))
    (hb : ∀ (f : Addr) (cdv : Value) (A : Around) (outer : List Env) (s : Shared) (H : Hp) (E : XK) (Z : Par), Room k (A.deeper (envOfC x (defScope st) s.heap.objs.size f cdv)) → PSs (cxOf (L2.CX P w) P w K mg base N x (defScope st) f cdv A outer s H E) (defBody st) (lfSx K mg Z (fun cls d _ H => E cls d H) b)) :
    CalD P w K mg base (k + 1) x st ps (spX K mg (fnX N ps.length b)) dvs := by
  obtain ⟨f, fd, F, hm⟩ := F
  exact ⟨f, fd, F, okXD F S (fun cdv A outer s H E Z hr => hb f cdv A outer s H E Z hr), hm⟩
variable {x : Str} {st : Stmt} {ps : List Str} {k : Nat} {sp : Sp} {dvs : List V}
/-- n values stand in the call, the defaults behind the first j fill up -/
theorem CalD.pos (C : CalD P w K mg base k x st ps sp dvs) (n j : Nat) (hd : dvs ≠ []) (hn : n + (dvs.length - j) = ps.length)
    (h : ∀ (T : Addr) (kV doc pm : Value) (an : Option Addr) (cdv ct : Value) (us its : List Value), us.length = n → its.length = dvs.length →
      ∃ k, bindArgs (PySem.W.fnOf x x (defArgs st) (defBody st) (defScope st) (.ref T) kV doc pm an cdv ct) ⟨us, []⟩ = seqItems? (.ref T) >>= k ∧ k (some its.toArray) = pure (ps.zip (us ++ its.drop j))) : CalQ P w K mg base k x ps sp (dvs.drop j) := by
  obtain ⟨f, fd, F, ok, hm⟩ := C
  obtain ⟨ds, r, b⟩ := F.binds1 n j hd hn h
  exact ⟨f, fd, ds, ok, hm, F.kp, r, b⟩
theorem CalQ.all (C : CalQ P w K mg base k x ps sp []) : CalX P w K mg base k x ps sp := by
  obtain ⟨f, fd, ds, ok, hm, kp, r, b⟩ := C
  cases r
  exact ⟨f, fd, ok, hm, kp, b⟩
theorem CalD.kw (C : CalD P w K mg base k x st ps sp dvs) (n : Nat) (ks : List Str) (pc : List (Nat × Nat)) (hd : dvs ≠ [])
    (h : ∀ (T : Addr) (kV doc pm : Value) (an : Option Addr) (cdv ct : Value) (us its ws : List Value), us.length = n → its.length = dvs.length → ws.length = ks.length →
      ∃ k, bindArgs (PySem.W.fnOf x x (defArgs st) (defBody st) (defScope st) (.ref T) kV doc pm an cdv ct) ⟨us, ks.zip ws⟩ = seqItems? (.ref T) >>= k ∧ k (some its.toArray) = pure (ps.zip (pick pc us its ws))) : CalK P w K mg base k x ps sp n ks (fun vs zs => pick pc vs dvs zs) := by
  obtain ⟨f, fd, F, ok, hm⟩ := C
  obtain ⟨its, b⟩ := F.kbindsD n ks (fun us ds zs => pick pc us ds zs) hd (fun a b c => pair_pick a b c pc) h
  exact ⟨f, fd, _, ok, hm, F.kp, b⟩
end
def withD (m : List PyData → Option PyData) (dd : List PyData) : List PyData → Option PyData := fun ds => m (ds ++ dd)
def dCallK (m : List PyData → Option PyData) (n k : Nat) (pk : List PyData → List PyData → List PyData) (ga gk : DA) : DE := fun s => (ga s).bind fun p => (gk p.2).bind fun q => if p.1.length = n ∧ q.1.length = k then (m (pk p.1 q.1)).map fun d => (d, q.2) else none
theorem PKimp {X : Cx} {e : List Keyword} {t t' : TA} (h : PK X e t) (i : ∀ σ H Q, t' σ H Q → t σ H Q) : PK X e t' := ⟨fun pos pins s σ H Q I q => h.run pos pins s σ H Q I (i σ H Q q)⟩
section
variable {X : Cx} {Z : Par} {e : Expr} {es : List Expr} {kws : List Keyword} {pos kpos : Pos} {fa : DE} {ga gk : DA} {nm : Option Str}
theorem dknil : PK X [] (lfA X.K Z aNil) := PKimp pk_nil fun σ H Q h => by
  obtain ⟨M, s, d, s', rl, hf, k⟩ := h
  cases hf
  exact k [] H (Kq.refl _ _ _) rl .nil
theorem dkcons (ha : PE X e (lft X.K Z fa)) (hb : PK X kws (lfA X.K Z gk)) : PK X (⟨nm, e, kpos⟩ :: kws) (lfA X.K Z (aCons fa gk)) := PKimp (pk_cons ha hb) fun σ H Q h => by
  obtain ⟨M, s, d, s', rl, hf, k⟩ := h
  obtain ⟨d1, s1, r, h1, h2, rfl⟩ := aCons_some hf
  exact ⟨M, s, d1, s1, rl, h1, fun v H1 k1 r1 t1 => ⟨M, s1, r, s', r1, h2, fun vs H2 k2 r2 t2 => k _ H2 (k1.trans k2) r2 (.cons (t1.mono k2.kp) t2)⟩⟩
theorem DtAll.app {K : PySem.W.Frag} {mu : Addr → Prop} {H : Hp} : ∀ {xs : List V} {us : List PyData} {ys : List V} {ws : List PyData}, DtAll K mu H xs us → DtAll K mu H ys ws → DtAll K mu H (xs ++ ys) (us ++ ws)
  | _, _, _, _, .nil, h => h
  | _, _, _, _, .cons a t, h => .cons a (t.app h)
theorem dclD {m : List PyData → Option (Rx PyData)} {j k : Nat} {x : Str} {ps : List Str} {p : Pos} {dvs : List V} {dd : List PyData} (c : CalQ X.prog X.w X.K X.mg X.base j x ps (spX X.K X.mg m) dvs) (hdt : ∀ mu H, DtAll X.K mu H dvs dd) (hr : Room k X.A) (hj : j ≤ k) (hg : Gl X x) (ha : PA X (e :: es) (lfA X.K Z ga))
    (hdb : (x == ("__debug__" : Str)) = false := by decide) (he : starEach (e :: es) X.env = (false, eval e X.env) :: starEach es X.env := by rfl) (hpl : (backTo pos (starEach es X.env)).any (·.1) = false := by rfl) :
    PE X (.Call (.Name x p) (e :: es) [] pos) (lft X.K Z (dCall (withD (okOf m) dd) ga)) := by
  obtain ⟨f, fd, ds0, F, hm, hk, hv, hb⟩ := c
  refine PEimp (pe_call F (hr.mono hj) hg hm hk hb hv (passL) ha hdb he hpl) fun σ H Q h => ?_
  obtain ⟨M, s, d, s', rl, hf, k⟩ := h
  unfold dCall withD okOf at hf
  simp only [Option.bind_eq_some_iff, Option.map_eq_some_iff] at hf
  obtain ⟨⟨ds, s1⟩, h1, d1, h2, h3⟩ := hf
  cases h3
  split at h2
  · rename_i d2 hm2
    cases h2
    refine ⟨M, s, ds, _, rl, h1, fun vs H1 k1 rl1 t1 => ?_⟩
    show spX X.K X.mg m (vs ++ dvs) H1 Q E0
    exact ⟨Mu Z M, _, _, rl1.muT, t1.app (hdt _ _), hm2, fun v H2 g2 t2 => k v H2 (k1.trans (kq_grow g2)) (rl1.grow g2) t2⟩
  · cases h2
theorem dclK {m : List PyData → Option (Rx PyData)} {j k n : Nat} {x : Str} {ps ks : List Str} {p : Pos} {dvs : List V} {dd : List PyData} {pc : List (Nat × Nat)} (c : CalK X.prog X.w X.K X.mg X.base j x ps (spX X.K X.mg m) n ks (fun vs zs => pick pc vs dvs zs)) (hdt : ∀ mu H, DtAll X.K mu H dvs dd) (hr : Room k X.A) (hj : j ≤ k) (hg : Gl X x) (ha : PA X (e :: es) (lfA X.K Z ga)) (hkw : PK X kws (lfA X.K Z gk))
    (hall : (backToKw pos (keywordEach kws X.env)).all (·.1.isSome) = true := by rfl) (hks : (backToKw pos (keywordEach kws X.env)).filterMap (·.1) = ks := by rfl)
    (hdb : (x == ("__debug__" : Str)) = false := by decide) (he : starEach (e :: es) X.env = (false, eval e X.env) :: starEach es X.env := by rfl)
    (hpl : ((backTo pos (starEach (e :: es) X.env)).any (·.1) || (backToKw pos (keywordEach kws X.env)).any (·.1.isNone)) = false := by rfl) :
    PE X (.Call (.Name x p) (e :: es) kws pos) (lft X.K Z (dCallK (okOf m) n ks.length (fun us zs => pick pc us dd zs) ga gk)) := by
  obtain ⟨f, fd, g, F, hm, hk, hb⟩ := c
  refine PEimp (pe_callN F (hr.mono hj) hg hm hk hb (passL) ha hkw hall hks hdb he hpl) fun σ H Q h => ?_
  obtain ⟨M, s, d, s', rl, hf, k⟩ := h
  unfold dCallK okOf at hf
  simp only [Option.bind_eq_some_iff] at hf
  obtain ⟨⟨ds, s1⟩, h1, ⟨zs, s2⟩, h2, h3⟩ := hf
  dsimp only at h2 h3
  split at h3
  case isFalse => cases h3
  rename_i hl
  simp only [Option.map_eq_some_iff] at h3
  obtain ⟨d1, h4, h5⟩ := h3
  cases h5
  split at h4
  · rename_i d2 hm2
    cases h4
    refine ⟨M, s, ds, _, rl, h1, fun vs H1 k1 rl1 t1 => ⟨M, s1, zs, _, rl1, h2, fun ws H2 k2 rl2 t2 => ⟨t1.len.trans hl.1, t2.len.trans hl.2, ?_⟩⟩⟩
    exact ⟨Mu Z M, _, _, rl2.muT, dt_pick (t1.mono k2.kp) (hdt _ _) t2 pc, hm2, fun v H3 g3 t3 => k v H3 ((k1.trans k2).trans (kq_grow g3)) (rl2.grow g3) t3⟩
  · cases h4
end
section
open He
variable {fa : List Fa} {fn : List DefD} {K : PySem.W.Frag} {mg : Str → Option Value} {h : Heap}
/-- a def with defaults in the head's list -/
def dOfD (x : Str) (st : Stmt) (dfl : List He.Dv) : He.DefD := ⟨(x, none), x, x, defArgs st, defBody st, defScope st, dfl, []⟩
theorem std_ofD (X : K.In h) (G : h.Ns mainGlobals mg) (c : He.SaysD fa fn K) (i j : Nat) {x : Str} {st : Stmt} {dfl : List He.Dv} {dvs : List V} (at_ : fn[i]? = some (dOfD x st dfl)) (gl : fa[j]? = some (.glo x)) (hv : dfl.map (He.Dv.v K) = dvs) : StdD K mg x st dvs := by
  obtain ⟨fd, F⟩ := c.def_ i at_
  subst hv
  exact ⟨_, fd, F, He.glo_ok X G (c.fact j gl)⟩
end
end Dl

/-! ### a def that makes texts of things: called where no text of a thing is being made -/
namespace Dl
open PySem PySem.Spec PyProof.Rows L2
def SysB (base : Heap) : Prop := ∃ o es n, base.get? sysModules = some o ∧ o.data = .dict es n
structure FnOkG (P : Program) (w : World) (K : PySem.W.Frag) (mg : Str → Option Value) (base : Heap) (k : Nat) (f : Addr) (fd : FuncData) (ps : List Str) (sp : Sp) : Prop where
  ln : ∀ vs H Q E, sp vs H Q E → vs.length = ps.length
  go : ∀ (A : Around) (fr : List Env) (t : Shared) (H : Hp) (args : Args) (us : List Value) (vs : List V) (Q : VK) (E : XK), Room k A → A.guards = some [] → Env0 P w K mg base A fr t H → BindsTo t fd args (ps.zip us) → Vals vs us → sp vs H Q E → codeAny (model P w) A (.call (.ref f) args) (CR CX0 fr P w H t Q E) t
theorem FnOkG.mono {P : Program} {w : World} {K : PySem.W.Frag} {mg : Str → Option Value} {base : Heap} {j k : Nat} {f : Addr} {fd : FuncData} {ps : List Str} {sp : Sp} (F : FnOkG P w K mg base j f fd ps sp) (h : j ≤ k) :
    FnOkG P w K mg base k f fd ps sp := ⟨F.ln, fun A fr t H args us vs Q E r => F.go A fr t H args us vs Q E (r.mono h)⟩
theorem okG {P : Program} {w : World} {K : PySem.W.Frag} {mg : Str → Option Value} {base : Heap} {x qual : Str} {st : Stmt} {f : Addr} {fd : FuncData} {N ps : List Str} {k : Nat} {sp : Sp} (F : Fun K x qual st f fd) (S : FnScope N ps (defScope st)) (ln : ∀ vs H Q E, sp vs H Q E → vs.length = ps.length)
    (bd : ∀ (cdv : Value) (A : Around) (fr : List Env) (t : Shared) (H : Hp) (vs : List V) (Q : VK) (E : XK), Room k (A.deeper (envOfC qual (defScope st) t.heap.objs.size f cdv)) → A.guards = some [] → sp vs H Q E →
      ∃ g, PSs (cxOf CX0 P w K mg base N qual (defScope st) f cdv A fr t H E).nox (defBody st) g ∧ g { nx := fun _ H' => Q .non H', rt := Q } (start N vs) H) : FnOkG P w K mg base (k + 1) f fd ps sp := by
  obtain ⟨oc, od, kV, doc, pm, an, cdv, ct, osl, rfl, at_, code⟩ := F.ex
  refine ⟨ln, fun A fr t H args us vs Q E room gd env bt r q => ?_⟩
  have kx : K.In t.heap := env.mod.kin.keeps fun b o e => (env.bs b o e).1
  have nl : t.heap.NoLimit := env.mod.nolimit.keeps fun b o e => (env.bs b o e).1
  have kinds : ∀ y ∈ ps.zip us, (defScope st).names.lookup y.1 = some .local ∨ ((defScope st).names.lookup y.1 = some .cell ∧ ((cellsFrom (t.heap.objs.size + 1) (defScope st).names []).lookup y.1).isSome = true) := by
    rintro ⟨n, v⟩ hy
    rcases S.par n (List.of_mem_zip hy).1 with z | z
    · exact .inl z
    · exact .inr ⟨z, PySem.W.cellsFrom_some _ _ _ (.inl z)⟩
  refine codeAny_call_function room.depth (kx _ _ at_) rfl S.co S.gen rfl (PySem.W.codeRec_of kx code) (bt _ _ _ _ ?_)
  refine wpAny_newFunctionEnv_cells S.kind kinds fun ev he t1 xk => ?_
  subst he
  refine ⟨nl.keeps xk.toInCall.keep, codeAny_func ?_⟩
  obtain ⟨g, pg, gq⟩ := bd cdv A fr t H vs Q E (room.deeper _) gd q
  have J : Inv (cxOf CX0 P w K mg base N qual (defScope st) f cdv A fr t H E) [] (start N vs) H t1 := inv_start S room.hd env (ln _ _ _ _ q) r xk
  have out : ∀ {σ' : L2.St} {H' : Hp} {v : V} {u : Value} {t' : Shared}, Inv (cxOf CX0 P w K mg base N qual (defScope st) f cdv A fr t H E) [] σ' H' t' → RelV v u → Q v H' → CE fr P w H t Q u t' :=
    fun {σ' H' v u t'} I rv z => ⟨v, H', I.os, I.bare, I.base, I.hok, rv, z⟩
  refine wpAny_mono (pg.nox.run [] t1 (start N vs) H _ J gq) (fun fl t' hs => ?_) fun e t' hs => hs
  match fl, hs with
  | .ret u, ⟨v, σ', H', I, rv, z⟩ => exact out I rv z
  | .next, ⟨σ', H', I, z⟩ => exact out (v := V.non) (u := Value.none) I rfl z
  | .brk, ⟨_, _, _, z⟩ => exact z.elim
  | .cont, ⟨_, _, _, z⟩ => exact z.elim
def CalG (P : Program) (w : World) (K : PySem.W.Frag) (mg : Str → Option Value) (base : Heap) (k : Nat) (x : Str) (ps : List Str) (sp : Sp) : Prop := ∃ (f : Addr) (fd : FuncData), FnOkG P w K mg base k f fd ps sp ∧ mg x = some (.ref f) ∧ PySem.W.keepIn K (.ref f) = true ∧ Binds K fd ps []
section
variable {P : Program} {w : World} {K : PySem.W.Frag} {mg : Str → Option Value} {base : Heap}
theorem calMG {x : Str} {st : Stmt} {N ps : List Str} {k : Nat} {b : DS} (F : Std K mg x st ps) (S : FnScope N ps (defScope st)) (sys : SysB base)
    (hb : ∀ (f : Addr) (cdv : Value) (A : Around) (outer : List Env) (s : Shared) (H : Hp) (E : XK) (Z : Par), Room k (A.deeper (envOfC x (defScope st) s.heap.objs.size f cdv)) → CG (cxOf CX0 P w K mg base N x (defScope st) f cdv A outer s H E).nox → PSs (cxOf CX0 P w K mg base N x (defScope st) f cdv A outer s H E).nox (defBody st) (lfS K Z b)) :
    CalG P w K mg base (k + 1) x ps (spM K (fnM N ps.length b)) := by
  obtain ⟨f, fd, F, hm, hb2⟩ := F
  refine ⟨f, fd, okG F S (fun vs H Q E h => ?_) (fun cdv A outer s H vs Q E hr gd h => ?_), hm, F.kp, hb2⟩
  · obtain ⟨mu, p, xs, pd, rest, ds, d, pd', rfl, h0, h1, h2, h3, h4, h5, h6⟩ := h
    unfold fnM at h5
    split at h5
    · rename_i hl
      rw [List.length_cons, h4.len]; exact hl
    · cases h5
  · obtain ⟨mu, p, xs, pd, rest, ds, d, pd', rfl, h0, h1, h2, h3, h4, h5, h6⟩ := h
    unfold fnM at h5
    split at h5
    case isFalse => cases h5
    rename_i hl
    let Z : Par := ⟨H, some p, mu⟩
    refine ⟨_, hb f cdv A outer s H E Z hr ⟨gd, by have := hr.un; show (A.deeper _).units + 100 < _; omega, sys⟩, [], startM N pd ds, ?_⟩
    have muE : ∀ a, Mu Z [] a → mu a := fun a q => by
      rcases q with q | q | q
      · exact q
      · cases q; exact h0
      · cases q
    have kk : Kp mu H (Mu Z []) H := fun a o e n => ⟨e, fun z => n (muE a z)⟩
    have r : Rel K Z [] (start N (.ref p :: rest)) H (startM N pd ds) := by
      refine ⟨fun a o e _ => e, fun a ha => (by cases ha), h1, fun a ha => (by cases ha; exact ⟨_, h2⟩), ?_⟩
      unfold startM L2.start
      have e : N.length - (V.ref p :: rest).length = N.length - 1 - ds.length := by rw [List.length_cons, h4.len]; omega
      rw [e]
      exact .pot rfl h2 (h3.mono kk) (slAll_start _ (h4.mono kk))
    have fin : ∀ {M : List Addr} {σ : L2.St} {H1 : Hp} {s1 : Sl} {pd1 : List PyData}, Rel K Z M σ H1 s1 → s1[0]? = some (.pot pd1) → ∃ xs1, H1 p = some (.lst xs1) ∧ DtAll K mu H1 xs1 pd1 := fun {M σ H1 s1 pd1} r1 e => by
      obtain ⟨a, xs1, _, e2, e3, e4⟩ := r1.sl.getPot e
      cases e2
      exact ⟨xs1, e3, e4.mono fun a o e n => ⟨e, fun z => n (.inl z)⟩⟩
    have bs : ∀ {M : List Addr} {σ : L2.St} {H1 : Hp} {s1 : Sl}, Rel K Z M σ H1 s1 → ∀ a o, H a = some o → a ≠ p → H1 a = some o := fun r1 a o e n => r1.base a o e (fun z => n (by cases z; rfl))
    unfold outM at h5
    split at h5
    · rename_i d1 s1 hq
      simp only [Option.map_eq_some_iff] at h5
      obtain ⟨pd1, hp, h5⟩ := h5
      cases h5
      refine ⟨_, r, hq, fun M σ H1 v k1 r1 t1 => ?_⟩
      obtain ⟨xs1, e1, e2⟩ := fin r1 (potOf_eq hp)
      exact h6 v H1 xs1 (bs r1) e1 e2 (t1.mono fun a o e n => ⟨e, fun z => n (.inl z)⟩)
    · rename_i s1 hq
      simp only [Option.map_eq_some_iff] at h5
      obtain ⟨pd1, hp, h5⟩ := h5
      cases h5
      refine ⟨_, r, hq, fun M σ H1 k1 r1 => ?_⟩
      obtain ⟨xs1, e1, e2⟩ := fin r1 (potOf_eq hp)
      exact h6 _ H1 xs1 (bs r1) e1 e2 .non
    · cases h5
end
section
variable {X : Cx} {k : Nat} {f : Addr} {fd : FuncData} {ps : List Str} {sp : Sp} {x : Str} {p pos : Pos} {e : Expr} {es : List Expr} {t : TA} {Z : Par} {ga : DA}
theorem pe_callG (F : FnOkG X.prog X.w X.K X.mg X.base k f fd ps sp) (cg : X.A.guards = some []) (hr : Room k X.A) (hg : Gl X x) (hm : X.mg x = some (.ref f)) (hk : PySem.W.keepIn X.K (.ref f) = true) (hb : Binds X.K fd ps [])
    (hx : Passes CX0 X E0) (ha : PA X (e :: es) t) (hdb : (x == ("__debug__" : Str)) = false) (he : starEach (e :: es) X.env = (false, eval e X.env) :: starEach es X.env) (hpl : (backTo pos (starEach es X.env)).any (·.1) = false) :
    PE X (.Call (.Name x p) (e :: es) [] pos) (tCall sp [] E0 t) := by
  refine ⟨fun pins s σ H Q I h => wpAny_Call_Name_kw (ld_glob I hg hm ?_ hdb)⟩
  refine PySem.W.callWith_K (h₀ := X.base) I.ok.mod.kin hk (thn (ha.run pos pins s σ H _ I h) fun us s1 ⟨vs, H1, I1, r, q⟩ => ⟨I1.kIn, ?_⟩) he hpl
  have q : sp (vs ++ []) H1 Q E0 := q
  rw [List.append_nil] at q
  have hl : us.length = ps.length := by rw [← r.length]; exact F.ln _ _ _ _ q
  refine wpAny_call (codeAny_mono (F.go X.A X.stack s1 H1 ⟨us, []⟩ us vs Q E0 hr cg I1.env0 (by have := hb s1 us I1.kIn (by rw [List.append_nil]; exact hl); rwa [List.append_nil] at this) r q) fun r s' z => ?_)
  match r, z with
  | .error e, z => exact hx pins σ H1 s1 e s' I1 z
  | .ok (.ret u), z => exact I1.after z
  | .ok .next, z => exact z.elim
  | .ok .brk, z => exact z.elim
  | .ok .cont, z => exact z.elim
theorem dclMG {j : Nat} {m : List PyData → List PyData → Option (PyData × List PyData)} (i : Nat) (c : CalG X.prog X.w X.K X.mg X.base j x ps (spM X.K m)) (cg : CG X) (hr : Room k X.A) (hj : j ≤ k) (hg : Gl X x) (h1 : PE X e (tVar i)) (ha : PA X es (lfA X.K Z ga)) (hx : Passes CX0 X E0 := by exact pass0)
    (hdb : (x == ("__debug__" : Str)) = false := by decide) (he : starEach (e :: es) X.env = (false, eval e X.env) :: starEach es X.env := by rfl) (hpl : (backTo pos (starEach es X.env)).any (·.1) = false := by rfl) :
    PE X (.Call (.Name x p) (e :: es) [] pos) (lft X.K Z (dCallM m i ga)) := by
  obtain ⟨f, fd, F, hm, hk, hb⟩ := c
  exact PEimp (pe_callG F cg.gd (hr.mono hj) hg hm hk hb hx (pa_cons h1 ha he) hdb he hpl) fun _ _ _ h => lift_callM h
end
end Dl

namespace K07
open PySem PySem.Spec PyProof.Rows L2 Dl
def topS (i : Nat) : Stmt := PySem.Challenge.pw_askround_k07_what_holds.main.body.getD i (.Pass ⟨0, 0, 0, 0⟩)
abbrev d_GROUPS : PyData := (.tuple [(.str "and"), (.str "or")])
abbrev d_LETTERS : PyData := (.str "abcdefghijklmnopqrstuvwxyz")
abbrev d_LONGEST_NAME : PyData := (.int 8)
abbrev d_MOST_PIECES : PyData := (.int 30)
abbrev d_MOST_TOGETHER : PyData := (.int 6)
abbrev d_MOST_WITHIN : PyData := (.int 6)
abbrev d_PIECES : PyData := (.tuple [(.str "is"), (.str "has"), (.str "from"), (.str "to")])
abbrev d_ROUNDS : PyData := (.tuple [(.str "any"), (.str "every")])
abbrev d_TOP_NUMBER : PyData := (.int 1000000)
abbrev d_WORDS : PyData := (.tuple [(.str "ask"), (.str "pick"), (.str "some"), (.str "count"), (.str "if"), (.str "else"), (.str "end"), (.str "part"), (.str "leave"), (.str "each"), (.str "hard"), (.str "soft"), (.str "is"), (.str "has"), (.str "from"), (.str "to"), (.str "not"), (.str "and"), (.str "or"), (.str "any"), (.str "every")])
def nm_ : List Str := ["NoCondition"]
def ts_ : List Str := ["NoCondition", "NoValue", "NoKind", "NoForm", "NoKey", "TooWide", "Stuck", "NoBook", "Clash", "Full", "NoNames", "NoEntry", "NoCheck", "Twice", "NoLines", "NoRound", "NoWeights", "NoTable", "NoFits", "NoTotals", "NoCounts", "NoPlaces", "NoPlace", "NoText", "NoLine", "CannotGo", "NoRecord", "NoFit"]
def q_ : Str := ("law" : Str) ++ ".<locals>." ++ "<lambda>"
structure Tx (K : PySem.W.Frag) (mg : Str → Option Value) : Prop where
  b_ValueError : mg "ValueError" = none
  b_abs : mg "abs" = none
  b_all : mg "all" = none
  b_any : mg "any" = none
  b_bool : mg "bool" = none
  b_dict : mg "dict" = none
  b_int : mg "int" = none
  b_isinstance : mg "isinstance" = none
  b_len : mg "len" = none
  b_list : mg "list" = none
  b_max : mg "max" = none
  b_min : mg "min" = none
  b_range : mg "range" = none
  b_repr : mg "repr" = none
  b_str : mg "str" = none
  b_sum : mg "sum" = none
  b_tuple : mg "tuple" = none
  c_GROUPS : GC K mg "GROUPS" d_GROUPS
  c_LETTERS : GC K mg "LETTERS" d_LETTERS
  c_LONGEST_NAME : GC K mg "LONGEST_NAME" d_LONGEST_NAME
  c_MOST_PIECES : GC K mg "MOST_PIECES" d_MOST_PIECES
  c_MOST_TOGETHER : GC K mg "MOST_TOGETHER" d_MOST_TOGETHER
  c_MOST_WITHIN : GC K mg "MOST_WITHIN" d_MOST_WITHIN
  c_PIECES : GC K mg "PIECES" d_PIECES
  c_ROUNDS : GC K mg "ROUNDS" d_ROUNDS
  c_TOP_NUMBER : GC K mg "TOP_NUMBER" d_TOP_NUMBER
  c_WORDS : GC K mg "WORDS" d_WORDS
section
variable {P : Program} {w : World} {K : PySem.W.Frag} {mg : Str → Option Value} {base : Heap}
/-! #### is_name -/
abbrev s_is_name : Stmt := topS 35
theorem sc_is_name : FnScope ["thing", "sign"] ["thing"] (defScope s_is_name) := ⟨rfl, rfl, rfl, by decide +kernel, rfl, by decide +kernel, by decide +kernel⟩
def b_is_name : DS := (sSeq (sIf (dOrT (dNotT (dTst (dUn (gIsi "str") (dVar 0)))) (dOrT (dNotT (dTst (dChain gLe gLe (dC (.int 1)) (dB gLen (aCons (dVar 0) aNil)) (dC d_LONGEST_NAME)))) (dTst (dOp (gIn false) (dVar 0) (dC d_WORDS)))))
  (sRet (dC (.bool false)))
  sNil)
  (sRet (dB gAll (aCons (dL (fLc (itA (dVar 0)) 1 tYesD (dOp (gIn false) (dVar 1) (dC d_LETTERS)))) aNil))))
def m_is_name : List PyData → Option PyData := fnP ["thing", "sign"] 1 b_is_name
theorem ok_is_name (F : Std K mg "is_name" s_is_name ["thing"]) (T : Tx K mg)  : Cal P w K mg base 1 "is_name" ["thing"] (spP K m_is_name) := by
  refine calP F sc_is_name (fun f cdv A outer s H E Z hr => ?_)
  unfold b_is_name
  exact (scons (sif (PW.pt (dtor (dtnot (dt (disi isi_str (by rfl) T.b_isinstance (by decide +kernel) (by rfl) T.b_str (by decide +kernel) (dv 0)))) (dtor (dtnot (dtchain op_leA ok_le op_leA ok_le di (dcb call_len ok_len (by rfl) T.b_len boot_len (dac (dv 0) danil)) (dgc (by rfl) T.c_LONGEST_NAME))) (pw_or1 (dtcmp (op_inA (hu_of hr)) ok_in (dv 0) (dgc (by rfl) T.c_WORDS) (by first | rfl | with_unfolding_all rfl))))))
  (sone (sret db))
  snil)
  (sone (sret (dcb (cr_all rfl) ok_all (by rfl) T.b_all (by decide +kernel) (dac (dfr (flc rfl sc_is_name.nd (pia (dv 0)) (blkOk_by (own := [("sign", 1)]) (N := ["thing", "sign"]) (sc := defScope s_is_name) (by decide +kernel)) (fun _ _ _ _ _ => pg_name (i := 1) sc_is_name.nd rfl (Or.inl rfl)) (fun _ _ _ _ _ _ => tynil) (fun _ _ _ _ _ _ => (dcmp (op_inA (hu_of hr)) ok_in (dv 1) (dgc (by rfl) T.c_LETTERS) (by first | rfl | with_unfolding_all rfl))))) danil)))))
/-! #### is_whole -/
abbrev s_is_whole : Stmt := topS 36
theorem sc_is_whole : FnScope ["thing"] ["thing"] (defScope s_is_whole) := ⟨rfl, rfl, rfl, by decide +kernel, rfl, by decide +kernel, by decide +kernel⟩
def b_is_whole : DS := (sRet (dAnd (dUn (gIsi "int") (dVar 0)) (dNot (dUn (gIsi "bool") (dVar 0)))))
def m_is_whole : List PyData → Option PyData := fnP ["thing"] 1 b_is_whole
theorem ok_is_whole (F : Std K mg "is_whole" s_is_whole ["thing"]) (T : Tx K mg)  : Cal P w K mg base 1 "is_whole" ["thing"] (spP K m_is_whole) := by
  refine calP F sc_is_whole (fun f cdv A outer s H E Z hr => ?_)
  unfold b_is_whole
  exact (sone (sret (dand (disi isi_int (by rfl) T.b_isinstance (by decide +kernel) (by rfl) T.b_int (by decide +kernel) (dv 0)) (pe_one (dnot (disi isi_bool (by rfl) T.b_isinstance (by decide +kernel) (by rfl) T.b_bool (by decide +kernel) (dv 0)))))))
/-! #### is_number -/
abbrev s_is_number : Stmt := topS 37
theorem sc_is_number : FnScope ["thing"] ["thing"] (defScope s_is_number) := ⟨rfl, rfl, rfl, by decide +kernel, rfl, by decide +kernel, by decide +kernel⟩
def b_is_number : DS := (sRet (dAnd (dCall m_is_whole (aCons (dVar 0) aNil)) (dChain gLe gLe (dC (.int 0)) (dVar 0) (dC d_TOP_NUMBER))))
def m_is_number : List PyData → Option PyData := fnP ["thing"] 1 b_is_number
theorem ok_is_number (F : Std K mg "is_number" s_is_number ["thing"]) (T : Tx K mg) (c_is_whole : Cal P w K mg base 1 "is_whole" ["thing"] (spP K m_is_whole)) : Cal P w K mg base 2 "is_number" ["thing"] (spP K m_is_number) := by
  refine calP F sc_is_number (fun f cdv A outer s H E Z hr => ?_)
  unfold b_is_number
  exact (sone (sret (dand (dcl c_is_whole hr (by decide) (by rfl) (dac (dv 0) danil)) (pe_one (dchain op_leA ok_le op_leA ok_le di (dv 0) (dgc (by rfl) T.c_TOP_NUMBER))))))
/-! #### _is_piece -/
abbrev s__is_piece : Stmt := topS 48
theorem sc__is_piece : FnScope ["thing", "word", "name", "wanted"] ["thing"] (defScope s__is_piece) := ⟨rfl, rfl, rfl, by decide +kernel, rfl, by decide +kernel, by decide +kernel⟩
def b__is_piece : DS := (sSeq (sAsg (dVar 0) (tgT [(tgN 1), (tgN 2), (tgN 3)]))
  (sSeq (sIf (dTst (dOp (gIn false) (dVar 1) (dTup (aCons (dC (.str "is")) (aCons (dC (.str "has")) aNil)))))
  (sRet (dAnd (dCall m_is_name (aCons (dVar 2) aNil)) (dCall m_is_name (aCons (dVar 3) aNil))))
  sNil)
  (sRet (dAnd (dCall m_is_name (aCons (dVar 2) aNil)) (dCall m_is_number (aCons (dVar 3) aNil))))))
def m__is_piece : List PyData → Option PyData := fnP ["thing", "word", "name", "wanted"] 1 b__is_piece
theorem ok__is_piece (F : Std K mg "_is_piece" s__is_piece ["thing"]) (T : Tx K mg) (c_is_name : Cal P w K mg base 1 "is_name" ["thing"] (spP K m_is_name)) (c_is_number : Cal P w K mg base 2 "is_number" ["thing"] (spP K m_is_number)) : Cal P w K mg base 3 "_is_piece" ["thing"] (spP K m__is_piece) := by
  refine calP F sc__is_piece (fun f cdv A outer s H E Z hr => ?_)
  unfold b__is_piece
  exact (scons (sasg (dv 0) (pg_tup rfl (pgs_cons (pg_name (i := 1) sc__is_piece.nd rfl (by first | exact .inl rfl | exact .inr rfl)) (pgs_cons (pg_name (i := 2) sc__is_piece.nd rfl (by first | exact .inl rfl | exact .inr rfl)) (pgs_cons (pg_name (i := 3) sc__is_piece.nd rfl (by first | exact .inl rfl | exact .inr rfl)) pgs_nil)))) (tgt rfl (tgscons tgn (tgscons tgn (tgscons tgn tgsnil)))))
  (scons (sif (dtcmp (op_inA (hu_of hr)) ok_in (dv 1) (dtup (dac ds (dac ds danil))) (by first | rfl | with_unfolding_all rfl))
  (sone (sret (dand (dcl c_is_name hr (by decide) (by rfl) (dac (dv 2) danil)) (pe_one (dcl c_is_name hr (by decide) (by rfl) (dac (dv 3) danil))))))
  snil)
  (sone (sret (dand (dcl c_is_name hr (by decide) (by rfl) (dac (dv 2) danil)) (pe_one (dcl c_is_number hr (by decide) (by rfl) (dac (dv 3) danil))))))))
/-! #### _count_group -/
abbrev s__count_group : Stmt := topS 47
theorem sc__count_group : FnScope ["parts", "room", "in_round", "counts", "part"] ["parts", "room", "in_round"] (defScope s__count_group) := ⟨rfl, rfl, rfl, by decide +kernel, rfl, by decide +kernel, by decide +kernel⟩
def b__count_group (self : List PyData → Option PyData) : DS := (sSeq (sIf (dOrT (dNotT (dTst (dUn (gIsi "tuple") (dVar 0)))) (dNotT (dTst (dChain gLe gLe (dC (.int 2)) (dB gLen (aCons (dVar 0) aNil)) (dC d_MOST_TOGETHER)))))
  (sRet (dC (.int 0)))
  sNil)
  (sSeq (sSet 3 (dL (fLc (itA (dVar 0)) 4 tYesD (dCall self (aCons (dVar 4) (aCons (dVar 1) (aCons (dVar 2) aNil)))))))
  (sRet (dIf (dTst (dOp gGt (dB gMin (aCons (dVar 3) aNil)) (dC (.int 0)))) (dB gSum (aCons (dVar 3) aNil)) (dC (.int 0))))))
def i__count_group (self : List PyData → Option PyData) : List PyData → Option PyData := fnP ["parts", "room", "in_round", "counts", "part"] 3 (b__count_group self)
theorem okI__count_group (F : Std K mg "_count_group" s__count_group ["parts", "room", "in_round"]) (T : Tx K mg)  (k : Nat) (hk : 0 ≤ k) (ms : List PyData → Option PyData) (c__count_pieces : Cal P w K mg base k "_count_pieces" ["thing", "room", "in_round"] (spP K ms)) : Cal P w K mg base (k + 1) "_count_group" ["parts", "room", "in_round"] (spP K (i__count_group ms)) := by
  refine calP F sc__count_group (fun f cdv A outer s H E Z hr => ?_)
  unfold b__count_group
  exact (scons (sif (PW.pt (dtor (dtnot (dt (disi isi_tuple (by rfl) T.b_isinstance (by decide +kernel) (by rfl) T.b_tuple (by decide +kernel) (dv 0)))) (pw_or1 (dtnot (dtchain op_leA ok_le op_leA ok_le di (dcb call_len ok_len (by rfl) T.b_len boot_len (dac (dv 0) danil)) (dgc (by rfl) T.c_MOST_TOGETHER))))))
  (sone (sret di))
  snil)
  (scons (ssetLc (i := 3) rfl sc__count_group.nd rfl rfl (sw_true rfl rfl rfl (by decide +kernel)) (pia (dv 0)) (blkOk_by (own := [("part", 4)]) (N := ["parts", "room", "in_round", "counts", "part"]) (sc := defScope s__count_group) (by decide +kernel)) (fun _ _ _ _ _ => pg_name (i := 4) sc__count_group.nd rfl (Or.inl rfl)) (fun _ _ _ _ _ _ => tynil) (fun _ _ _ _ _ _ => (dcl c__count_pieces hr (Nat.le_refl _) (by rfl) (dac (dv 4) (dac (dv 1) (dac (dv 2) danil))))))
  (sone (sret (dif_ (dtcmp op_gt ok_gt (dcb (call_minA rfl) ok_minA (by rfl) T.b_min (by decide +kernel) (dac (dv 3) danil)) di (nomark _)) (dcb (cr_sum rfl) ok_sum (by rfl) T.b_sum (by decide +kernel) (dac (dv 3) danil)) di)))))
/-! #### _count_pieces -/
abbrev s__count_pieces : Stmt := topS 46
theorem sc__count_pieces : FnScope ["thing", "room", "in_round"] ["thing", "room", "in_round"] (defScope s__count_pieces) := ⟨rfl, rfl, rfl, by decide +kernel, rfl, by decide +kernel, by decide +kernel⟩
def b__count_pieces (self : List PyData → Option PyData) : DS := (sSeq (sIf (dOrT (dTst (dOp gEq (dVar 1) (dC (.int 0)))) (dOrT (dNotT (dTst (dUn (gIsi "tuple") (dVar 0)))) (dTst (dOp (gIn true) (dB gLen (aCons (dVar 0) aNil)) (dTup (aCons (dC (.int 2)) (aCons (dC (.int 3)) aNil)))))))
  (sRet (dC (.int 0)))
  sNil)
  (sSeq (sIf (dAndT (dTst (dOp gEq (dB gLen (aCons (dVar 0) aNil)) (dC (.int 2)))) (dTst (dOp gEq (dOp gIx (dVar 0) (dC (.int 0))) (dC (.str "not")))))
  (sRet (dCall self (aCons (dOp gIx (dVar 0) (dC (.int 1))) (aCons (dOp gSub (dVar 1) (dC (.int 1))) (aCons (dVar 2) aNil)))))
  sNil)
  (sSeq (sIf (dAndT (dTst (dOp gEq (dB gLen (aCons (dVar 0) aNil)) (dC (.int 2)))) (dTst (dOp (gIn false) (dOp gIx (dVar 0) (dC (.int 0))) (dC d_GROUPS))))
  (sRet (dCall (i__count_group self) (aCons (dOp gIx (dVar 0) (dC (.int 1))) (aCons (dOp gSub (dVar 1) (dC (.int 1))) (aCons (dVar 2) aNil)))))
  sNil)
  (sSeq (sIf (dAndT (dTst (dOp gEq (dB gLen (aCons (dVar 0) aNil)) (dC (.int 3)))) (dTst (dOp (gIn false) (dOp gIx (dVar 0) (dC (.int 0))) (dC d_PIECES))))
  (sRet (dIf (dTst (dCall m__is_piece (aCons (dVar 0) aNil))) (dC (.int 1)) (dC (.int 0))))
  sNil)
  (sSeq (sIf (dAndT (dTst (dOp gEq (dB gLen (aCons (dVar 0) aNil)) (dC (.int 3)))) (dAndT (dTst (dOp (gIn false) (dOp gIx (dVar 0) (dC (.int 0))) (dC d_ROUNDS))) (dAndT (dNotT (dTst (dVar 2))) (dTst (dCall m_is_name (aCons (dOp gIx (dVar 0) (dC (.int 1))) aNil))))))
  (sRet (dCall self (aCons (dOp gIx (dVar 0) (dC (.int 2))) (aCons (dOp gSub (dVar 1) (dC (.int 1))) (aCons (dC (.bool true)) aNil)))))
  sNil)
  (sRet (dC (.int 0))))))))
def m__count_pieces : Nat → List PyData → Option PyData
  | 0 => fun _ => none
  | n + 1 => fnP ["thing", "room", "in_round"] 3 (b__count_pieces (m__count_pieces n))
theorem ok__count_pieces (F : Std K mg "_count_pieces" s__count_pieces ["thing", "room", "in_round"]) (F__count_group : Std K mg "_count_group" s__count_group ["parts", "room", "in_round"]) (T : Tx K mg) (c__is_piece : Cal P w K mg base 3 "_is_piece" ["thing"] (spP K m__is_piece)) (c_is_name : Cal P w K mg base 1 "is_name" ["thing"] (spP K m_is_name)) : ∀ n : Nat, Cal P w K mg base (3 + 2 * n) "_count_pieces" ["thing", "room", "in_round"] (spP K (m__count_pieces n))
  | 0 => F.noneP _
  | n + 1 => by
    have ih := ok__count_pieces F F__count_group T c__is_piece c_is_name n
    have ih__count_group := okI__count_group F__count_group T  _ (by omega) _ ih
    refine Cal.mono (j := 3 + 2 * n + 1 + 1) (calP (k := 3 + 2 * n + 1) F sc__count_pieces (fun f cdv A outer s H E Z hr => ?_)) (by omega)
    unfold b__count_pieces
    exact (scons (sif (PW.pt (dtor (dtcmp (op_eqA hr.units) ok_eq (dv 1) di (nomark _)) (dtor (dtnot (dt (disi isi_tuple (by rfl) T.b_isinstance (by decide +kernel) (by rfl) T.b_tuple (by decide +kernel) (dv 0)))) (pw_or1 (dtcmp (op_notInA (hu_of hr)) ok_in (dcb call_len ok_len (by rfl) T.b_len boot_len (dac (dv 0) danil)) (dtup (dac di (dac di danil))) (by first | rfl | with_unfolding_all rfl))))))
  (sone (sret di))
  snil)
  (scons (sif (PW.pt (dtand (dtcmp (op_eqA hr.units) ok_eq (dcb call_len ok_len (by rfl) T.b_len boot_len (dac (dv 0) danil)) di (nomark _)) (pw_and1 (dtcmp (op_eqA hr.units) ok_eq (dix ix_seq ok_ix (dv 0) di) ds (nomark _)))))
  (sone (sret (dcl ih hr (by omega) (by rfl) (dac (dix ix_seq ok_ix (dv 0) di) (dac (do_ op_sub ok_sub (dv 1) di) (dac (dv 2) danil))))))
  snil)
  (scons (sif (PW.pt (dtand (dtcmp (op_eqA hr.units) ok_eq (dcb call_len ok_len (by rfl) T.b_len boot_len (dac (dv 0) danil)) di (nomark _)) (pw_and1 (dtcmp (op_inA (hu_of hr)) ok_in (dix ix_seq ok_ix (dv 0) di) (dgc (by rfl) T.c_GROUPS) (by first | rfl | with_unfolding_all rfl)))))
  (sone (sret (dcl ih__count_group hr (by omega) (by rfl) (dac (dix ix_seq ok_ix (dv 0) di) (dac (do_ op_sub ok_sub (dv 1) di) (dac (dv 2) danil))))))
  snil)
  (scons (sif (PW.pt (dtand (dtcmp (op_eqA hr.units) ok_eq (dcb call_len ok_len (by rfl) T.b_len boot_len (dac (dv 0) danil)) di (nomark _)) (pw_and1 (dtcmp (op_inA (hu_of hr)) ok_in (dix ix_seq ok_ix (dv 0) di) (dgc (by rfl) T.c_PIECES) (by first | rfl | with_unfolding_all rfl)))))
  (sone (sret (dif_ (dt (dcl c__is_piece hr (by omega) (by rfl) (dac (dv 0) danil))) di di)))
  snil)
  (scons (sif (PW.pt (dtand (dtcmp (op_eqA hr.units) ok_eq (dcb call_len ok_len (by rfl) T.b_len boot_len (dac (dv 0) danil)) di (nomark _)) (dtand (dtcmp (op_inA (hu_of hr)) ok_in (dix ix_seq ok_ix (dv 0) di) (dgc (by rfl) T.c_ROUNDS) (by first | rfl | with_unfolding_all rfl)) (dtand (dtnot (dt (dv 2))) (pw_and1 (dt (dcl c_is_name hr (by omega) (by rfl) (dac (dix ix_seq ok_ix (dv 0) di) danil))))))))
  (sone (sret (dcl ih hr (by omega) (by rfl) (dac (dix ix_seq ok_ix (dv 0) di) (dac (do_ op_sub ok_sub (dv 1) di) (dac db danil))))))
  snil)
  (sone (sret di)))))))
/-! #### is_condition -/
abbrev s_is_condition : Stmt := topS 45
theorem sc_is_condition : FnScope ["thing"] ["thing"] (defScope s_is_condition) := ⟨rfl, rfl, rfl, by decide +kernel, rfl, by decide +kernel, by decide +kernel⟩
def b_is_condition : DS := (sRet (dChain gLe gLe (dC (.int 1)) (dCall (m__count_pieces 8) (aCons (dVar 0) (aCons (dC d_MOST_WITHIN) (aCons (dC (.bool false)) aNil)))) (dC d_MOST_PIECES)))
def m_is_condition : List PyData → Option PyData := fnP ["thing"] 1 b_is_condition
theorem ok_is_condition (F : Std K mg "is_condition" s_is_condition ["thing"]) (T : Tx K mg) (c__count_pieces : Cal P w K mg base 20 "_count_pieces" ["thing", "room", "in_round"] (spP K (m__count_pieces 8))) : Cal P w K mg base 21 "is_condition" ["thing"] (spP K m_is_condition) := by
  refine calP F sc_is_condition (fun f cdv A outer s H E Z hr => ?_)
  unfold b_is_condition
  exact (sone (sret (dchain op_leA ok_le op_leA ok_le di (dcl c__count_pieces hr (by decide) (by rfl) (dac (dv 0) (dac (dgc (by rfl) T.c_MOST_WITHIN) (dac db danil)))) (dgc (by rfl) T.c_MOST_PIECES))))
/-! #### check_condition -/
abbrev s_check_condition : Stmt := topS 49
theorem sc_check_condition : FnScope ["thing"] ["thing"] (defScope s_check_condition) := ⟨rfl, rfl, rfl, by decide +kernel, rfl, by decide +kernel, by decide +kernel⟩
def b_check_condition : DSx := (xsIf (dNotT (dTst (dCall m_is_condition (aCons (dVar 0) aNil))))
  (xsRaise "NoCondition")
  (xsUp sNil))
def m_check_condition : List PyData → Option (Rx PyData) := fnX ["thing"] 1 b_check_condition
theorem ok_check_condition (F : Std K mg "check_condition" s_check_condition ["thing"]) (T : Tx K mg) (Fx : ExF K mg nm_ ts_) (c_is_condition : Cal P w K mg base 21 "is_condition" ["thing"] (spP K m_is_condition)) : CalX P w K mg base 22 "check_condition" ["thing"] (spX K mg m_check_condition) := by
  refine calX F sc_check_condition (fun f cdv A outer s H E Z hr => ?_)
  unfold b_check_condition
  exact (xsone (xsif (dtnot (dt (dcl c_is_condition hr (by decide) (by rfl) (dac (dv 0) danil))))
  (xsone (xsraise (Fx.mak "NoCondition" (by decide)) rfl (L2.takes_of rfl rfl rfl rfl) (by rfl)))
  xsnil))
/-! #### fits -/
abbrev s_fits : Stmt := topS 53
theorem sc_fits : FnScope ["word", "wanted", "answer"] ["word", "wanted", "answer"] (defScope s_fits) := ⟨rfl, rfl, rfl, by decide +kernel, rfl, by decide +kernel, by decide +kernel⟩
def b_fits : DS := (sSeq (sIf (dTst (dOp gEq (dVar 0) (dC (.str "is"))))
  (sRet (dOp gEq (dVar 2) (dVar 1)))
  sNil)
  (sSeq (sIf (dTst (dOp gEq (dVar 0) (dC (.str "has"))))
  (sRet (dAnd (dUn (gIsi "tuple") (dVar 2)) (dOp (gIn false) (dVar 1) (dVar 2))))
  sNil)
  (sSeq (sIf (dNotT (dTst (dCall m_is_whole (aCons (dVar 2) aNil))))
  (sRet (dC (.bool false)))
  sNil)
  (sRet (dIf (dTst (dOp gEq (dVar 0) (dC (.str "from")))) (dOp gGe (dVar 2) (dVar 1)) (dOp gLe (dVar 2) (dVar 1)))))))
def m_fits : List PyData → Option PyData := fnP ["word", "wanted", "answer"] 3 b_fits
theorem ok_fits (F : Std K mg "fits" s_fits ["word", "wanted", "answer"]) (T : Tx K mg) (c_is_whole : Cal P w K mg base 1 "is_whole" ["thing"] (spP K m_is_whole)) : Cal P w K mg base 2 "fits" ["word", "wanted", "answer"] (spP K m_fits) := by
  refine calP F sc_fits (fun f cdv A outer s H E Z hr => ?_)
  unfold b_fits
  exact (scons (sif (dtcmp (op_eqA hr.units) ok_eq (dv 0) ds (nomark _))
  (sone (sret (dcmp (op_eqA hr.units) ok_eq (dv 2) (dv 1) (nomark _))))
  snil)
  (scons (sif (dtcmp (op_eqA hr.units) ok_eq (dv 0) ds (nomark _))
  (sone (sret (dand (disi isi_tuple (by rfl) T.b_isinstance (by decide +kernel) (by rfl) T.b_tuple (by decide +kernel) (dv 2)) (pe_one (dcmp (op_inA (hu_of hr)) ok_in (dv 1) (dv 2) (by first | rfl | with_unfolding_all rfl))))))
  snil)
  (scons (sif (dtnot (dt (dcl c_is_whole hr (by decide) (by rfl) (dac (dv 2) danil))))
  (sone (sret db))
  snil)
  (sone (sret (dif_ (dtcmp (op_eqA hr.units) ok_eq (dv 0) ds (nomark _)) (dcmp op_ge ok_ge (dv 2) (dv 1) (nomark _)) (dcmp op_leA ok_le (dv 2) (dv 1) (nomark _))))))))
/-! #### _piece_holds -/
abbrev s__piece_holds : Stmt := topS 52
theorem sc__piece_holds : FnScope ["piece", "taken", "person", "word", "name", "wanted", "key"] ["piece", "taken", "person"] (defScope s__piece_holds) := ⟨rfl, rfl, rfl, by decide +kernel, rfl, by decide +kernel, by decide +kernel⟩
def b__piece_holds : DS := (sSeq (sAsg (dVar 0) (tgT [(tgN 3), (tgN 4), (tgN 5)]))
  (sSeq (sFor (itA (dTup (aCons (dTup (aCons (dVar 4) (aCons (dVar 2) aNil))) (aCons (dTup (aCons (dVar 4) (aCons (dC (.int 0)) aNil))) aNil)))) (tgN 6)
  (sIf (dTst (dOp (gInD false) (dVar 6) (dVar 1)))
  (sRet (dCall m_fits (aCons (dVar 3) (aCons (dVar 5) (aCons (dOp gGetD (dVar 1) (dVar 6)) aNil)))))
  sNil))
  (sRet (dC (.bool false)))))
def m__piece_holds : List PyData → Option PyData := fnP ["piece", "taken", "person", "word", "name", "wanted", "key"] 3 b__piece_holds
theorem ok__piece_holds (F : Std K mg "_piece_holds" s__piece_holds ["piece", "taken", "person"]) (T : Tx K mg) (c_fits : Cal P w K mg base 2 "fits" ["word", "wanted", "answer"] (spP K m_fits)) : Cal P w K mg base 3 "_piece_holds" ["piece", "taken", "person"] (spP K m__piece_holds) := by
  refine calP F sc__piece_holds (fun f cdv A outer s H E Z hr => ?_)
  unfold b__piece_holds
  exact (scons (sasg (dv 0) (pg_tup rfl (pgs_cons (pg_name (i := 3) sc__piece_holds.nd rfl (by first | exact .inl rfl | exact .inr rfl)) (pgs_cons (pg_name (i := 4) sc__piece_holds.nd rfl (by first | exact .inl rfl | exact .inr rfl)) (pgs_cons (pg_name (i := 5) sc__piece_holds.nd rfl (by first | exact .inl rfl | exact .inr rfl)) pgs_nil)))) (tgt rfl (tgscons tgn (tgscons tgn (tgscons tgn tgsnil)))))
  (scons (sfor PassesOwn.never rfl (pia (dtup (dac (dtup (dac (dv 4) (dac (dv 2) danil))) (dac (dtup (dac (dv 4) (dac di danil))) danil)))) (pg_name (i := 6) sc__piece_holds.nd rfl (by first | exact .inl rfl | exact .inr rfl)) tgn
  (sone (sif (dtind (hu_of hr) (dv 6) (dv 1))
  (sone (sret (dcl c_fits hr (by decide) (by rfl) (dac (dv 3) (dac (dv 5) (dac (dgetd (hu_of hr) (dv 1) (dv 6)) danil))))))
  snil)))
  (sone (sret db))))
/-! #### holds_by -/
abbrev s_holds_by : Stmt := topS 51
theorem sc_holds_by : FnScope ["condition", "taken", "person", "folk", "word", "found", "part", "many", "one"] ["condition", "taken", "person", "folk"] (defScope s_holds_by) := ⟨rfl, rfl, rfl, by decide +kernel, rfl, by decide +kernel, by decide +kernel⟩
def b_holds_by (self : List PyData → Option PyData) : DS := (sSeq (sSet 4 (dOp gIx (dVar 0) (dC (.int 0))))
  (sSeq (sIf (dTst (dOp gEq (dVar 4) (dC (.str "not"))))
  (sRet (dNot (dCall self (aCons (dOp gIx (dVar 0) (dC (.int 1))) (aCons (dVar 1) (aCons (dVar 2) (aCons (dVar 3) aNil)))))))
  sNil)
  (sSeq (sIf (dTst (dOp (gIn false) (dVar 4) (dC d_GROUPS)))
  (sSeq (sSet 5 (dL (fLc (itA (dOp gIx (dVar 0) (dC (.int 1)))) 6 tYesD (dCall self (aCons (dVar 6) (aCons (dVar 1) (aCons (dVar 2) (aCons (dVar 3) aNil))))))))
  (sRet (dIf (dTst (dOp gEq (dVar 4) (dC (.str "and")))) (dB gAll (aCons (dVar 5) aNil)) (dB gAny (aCons (dVar 5) aNil)))))
  sNil)
  (sSeq (sIf (dTst (dOp (gIn false) (dVar 4) (dC d_ROUNDS)))
  (sSeq (sSet 7 (dGet2 (dVar 3) (dOp gIx (dVar 0) (dC (.int 1))) (dC (.int 0))))
  (sSeq (sSet 5 (dL (fLc (itR2 (dC (.int 1)) (dOp gAdd (dVar 7) (dC (.int 1)))) 8 tYesD (dCall self (aCons (dOp gIx (dVar 0) (dC (.int 2))) (aCons (dVar 1) (aCons (dVar 8) (aCons (dVar 3) aNil))))))))
  (sRet (dIf (dTst (dOp gEq (dVar 4) (dC (.str "any")))) (dB gAny (aCons (dVar 5) aNil)) (dB gAll (aCons (dVar 5) aNil))))))
  sNil)
  (sRet (dCall m__piece_holds (aCons (dVar 0) (aCons (dVar 1) (aCons (dVar 2) aNil)))))))))
def m_holds_by : Nat → List PyData → Option PyData
  | 0 => fun _ => none
  | n + 1 => fnP ["condition", "taken", "person", "folk", "word", "found", "part", "many", "one"] 4 (b_holds_by (m_holds_by n))
theorem ok_holds_by (F : Std K mg "holds_by" s_holds_by ["condition", "taken", "person", "folk"]) (T : Tx K mg) (c__piece_holds : Cal P w K mg base 3 "_piece_holds" ["piece", "taken", "person"] (spP K m__piece_holds)) : ∀ n : Nat, Cal P w K mg base (3 + n) "holds_by" ["condition", "taken", "person", "folk"] (spP K (m_holds_by n))
  | 0 => F.noneP _
  | n + 1 => by
    have ih := ok_holds_by F T c__piece_holds n
    refine calP F sc_holds_by (fun f cdv A outer s H E Z hr => ?_)
    unfold b_holds_by
    exact (scons (sset (i := 4) sc_holds_by.nd rfl (by first | exact .inl rfl | exact .inr rfl) (dix ix_seq ok_ix (dv 0) di))
  (scons (sif (dtcmp (op_eqA hr.units) ok_eq (dv 4) ds (nomark _))
  (sone (sret (dnot (dcl ih hr (Nat.le_refl _) (by rfl) (dac (dix ix_seq ok_ix (dv 0) di) (dac (dv 1) (dac (dv 2) (dac (dv 3) danil))))))))
  snil)
  (scons (sif (dtcmp (op_inA (hu_of hr)) ok_in (dv 4) (dgc (by rfl) T.c_GROUPS) (by first | rfl | with_unfolding_all rfl))
  (scons (ssetLc (i := 5) rfl sc_holds_by.nd rfl rfl (sw_true rfl rfl rfl (by decide +kernel)) (pia (dix ix_seq ok_ix (dv 0) di)) (blkOk_by (own := [("part", 6)]) (N := ["condition", "taken", "person", "folk", "word", "found", "part", "many", "one"]) (sc := defScope s_holds_by) (by decide +kernel)) (fun _ _ _ _ _ => pg_name (i := 6) sc_holds_by.nd rfl (Or.inl rfl)) (fun _ _ _ _ _ _ => tynil) (fun _ _ _ _ _ _ => (dcl ih hr (Nat.le_refl _) (by rfl) (dac (dv 6) (dac (dv 1) (dac (dv 2) (dac (dv 3) danil)))))))
  (sone (sret (dif_ (dtcmp (op_eqA hr.units) ok_eq (dv 4) ds (nomark _)) (dcb (cr_all rfl) ok_all (by rfl) T.b_all (by decide +kernel) (dac (dv 5) danil)) (dcb (cr_any rfl) ok_any (by rfl) T.b_any (by decide +kernel) (dac (dv 5) danil))))))
  snil)
  (scons (sif (dtcmp (op_inA (hu_of hr)) ok_in (dv 4) (dgc (by rfl) T.c_ROUNDS) (by first | rfl | with_unfolding_all rfl))
  (scons (sset (i := 7) sc_holds_by.nd rfl (by first | exact .inl rfl | exact .inr rfl) (dget2 (hu_of hr) (dv 3) (dix ix_seq ok_ix (dv 0) di) di))
  (scons (ssetLc (i := 5) rfl sc_holds_by.nd rfl rfl (sw_true rfl rfl rfl (by decide +kernel)) (pir2 (by rfl) T.b_range di (do_ op_addA ok_add (dv 7) di)) (blkOk_by (own := [("one", 8)]) (N := ["condition", "taken", "person", "folk", "word", "found", "part", "many", "one"]) (sc := defScope s_holds_by) (by decide +kernel)) (fun _ _ _ _ _ => pg_name (i := 8) sc_holds_by.nd rfl (Or.inl rfl)) (fun _ _ _ _ _ _ => tynil) (fun _ _ _ _ _ _ => (dcl ih hr (Nat.le_refl _) (by rfl) (dac (dix ix_seq ok_ix (dv 0) di) (dac (dv 1) (dac (dv 8) (dac (dv 3) danil)))))))
  (sone (sret (dif_ (dtcmp (op_eqA hr.units) ok_eq (dv 4) ds (nomark _)) (dcb (cr_any rfl) ok_any (by rfl) T.b_any (by decide +kernel) (dac (dv 5) danil)) (dcb (cr_all rfl) ok_all (by rfl) T.b_all (by decide +kernel) (dac (dv 5) danil)))))))
  snil)
  (sone (sret (dcl c__piece_holds hr (by first | exact Nat.le_add_right _ _ | (show _ ≤ Nat.add _ _; simp only [Nat.add_eq]; omega)) (by rfl) (dac (dv 0) (dac (dv 1) (dac (dv 2) danil))))))))))
/-! #### holds -/
abbrev s_holds : Stmt := topS 50
theorem sc_holds : FnScope ["condition", "taken", "person", "folk"] ["condition", "taken", "person", "folk"] (defScope s_holds) := ⟨rfl, rfl, rfl, by decide +kernel, rfl, by decide +kernel, by decide +kernel⟩
def b_holds : DSx := (xsSeq (xsDrop (xCall m_check_condition (aCons (dVar 0) aNil)))
  (xsUp (sRet (dCall (m_holds_by 7) (aCons (dVar 0) (aCons (dVar 1) (aCons (dVar 2) (aCons (dIf (dTst (dOp gIsN (dVar 3) (dC .none))) (dC (.dict [])) (dVar 3)) aNil))))))))
def m_holds : List PyData → Option (Rx PyData) := fnX ["condition", "taken", "person", "folk"] 4 b_holds
abbrev dv_holds : List V := [.int 0, .non]
theorem ok_holds (F : StdD K mg "holds" s_holds dv_holds) (T : Tx K mg) (c_check_condition : CalX P w K mg base 22 "check_condition" ["thing"] (spX K mg m_check_condition)) (c_holds_by : Cal P w K mg base 11 "holds_by" ["condition", "taken", "person", "folk"] (spP K (m_holds_by 7))) : CalD P w K mg base 23 "holds" s_holds ["condition", "taken", "person", "folk"] (spX K mg m_holds) dv_holds := by
  refine calD F sc_holds (fun f cdv A outer s H E Z hr => ?_)
  unfold b_holds
  exact (xscons (xsdrop (xcl (L2.takes_of rfl rfl rfl rfl) c_check_condition hr (by decide) (by rfl) (dac (dv 0) danil)))
  (xsone (xsup (sret (dcl c_holds_by hr (by decide) (by rfl) (dac (dv 0) (dac (dv 1) (dac (dv 2) (dac (dif_ (dtcmp op_isN ok_isN (dv 3) dn (nomark _)) ddct (dv 3)) danil)))))))))
theorem sh_holds_2 {k : Nat} {sp : Sp} (c : CalD P w K mg base k "holds" s_holds ["condition", "taken", "person", "folk"] sp dv_holds) : CalQ P w K mg base k "holds" ["condition", "taken", "person", "folk"] sp (dv_holds.drop 0) := c.pos 2 0 (by exact List.cons_ne_nil _ _) rfl fun _ _ _ _ _ _ _ us its h1 h2 => match us, its, h1, h2 with | [_, _], [_, _], _, _ => ⟨_, rfl, rfl⟩
theorem sh_holds_2_folk {k : Nat} {sp : Sp} (c : CalD P w K mg base k "holds" s_holds ["condition", "taken", "person", "folk"] sp dv_holds) : CalK P w K mg base k "holds" ["condition", "taken", "person", "folk"] sp 2 ["folk"] (fun vs zs => pick [(0, 0), (0, 1), (1, 0), (2, 0)] vs dv_holds zs) := c.kw 2 ["folk"] [(0, 0), (0, 1), (1, 0), (2, 0)] (by exact List.cons_ne_nil _ _) fun _ _ _ _ _ _ _ us its ws h1 h2 h3 => match us, its, ws, h1, h2, h3 with | [_, _], [_, _], [_], _, _, _ => ⟨_, rfl, rfl⟩
theorem sh_holds_2_folk_person {k : Nat} {sp : Sp} (c : CalD P w K mg base k "holds" s_holds ["condition", "taken", "person", "folk"] sp dv_holds) : CalK P w K mg base k "holds" ["condition", "taken", "person", "folk"] sp 2 ["folk", "person"] (fun vs zs => pick [(0, 0), (0, 1), (2, 1), (2, 0)] vs dv_holds zs) := c.kw 2 ["folk", "person"] [(0, 0), (0, 1), (2, 1), (2, 0)] (by exact List.cons_ne_nil _ _) fun _ _ _ _ _ _ _ us its ws h1 h2 h3 => match us, its, ws, h1, h2, h3 with | [_, _], [_, _], [_, _], _, _, _ => ⟨_, rfl, rfl⟩
theorem sh_holds_2_person {k : Nat} {sp : Sp} (c : CalD P w K mg base k "holds" s_holds ["condition", "taken", "person", "folk"] sp dv_holds) : CalK P w K mg base k "holds" ["condition", "taken", "person", "folk"] sp 2 ["person"] (fun vs zs => pick [(0, 0), (0, 1), (2, 0), (1, 1)] vs dv_holds zs) := c.kw 2 ["person"] [(0, 0), (0, 1), (2, 0), (1, 1)] (by exact List.cons_ne_nil _ _) fun _ _ _ _ _ _ _ us its ws h1 h2 h3 => match us, its, ws, h1, h2, h3 with | [_, _], [_, _], [_], _, _, _ => ⟨_, rfl, rfl⟩
theorem sh_holds_3 {k : Nat} {sp : Sp} (c : CalD P w K mg base k "holds" s_holds ["condition", "taken", "person", "folk"] sp dv_holds) : CalQ P w K mg base k "holds" ["condition", "taken", "person", "folk"] sp (dv_holds.drop 1) := c.pos 3 1 (by exact List.cons_ne_nil _ _) rfl fun _ _ _ _ _ _ _ us its h1 h2 => match us, its, h1, h2 with | [_, _, _], [_, _], _, _ => ⟨_, rfl, rfl⟩
theorem sh_holds_4 {k : Nat} {sp : Sp} (c : CalD P w K mg base k "holds" s_holds ["condition", "taken", "person", "folk"] sp dv_holds) : CalX P w K mg base k "holds" ["condition", "taken", "person", "folk"] sp := CalQ.all (c.pos 4 2 (by exact List.cons_ne_nil _ _) rfl fun _ _ _ _ _ _ _ us its h1 h2 => match us, its, h1, h2 with | [_, _, _, _], [_, _], _, _ => ⟨_, rfl, rfl⟩)
/-! #### _law_pot -/
abbrev s__law_pot : Stmt := topS 55
theorem sc__law_pot : FnScope ["_law_script", "_law_k", "_law_cell"] ["_law_script", "_law_k"] (defScope s__law_pot) := ⟨rfl, rfl, rfl, by decide +kernel, rfl, by decide +kernel, by decide +kernel⟩
def b__law_pot : DF := (rSeq (sSet 2 (dC (.int 0)))
  (rSeq (sIf (dTst (dOp gLt (dVar 1) (dB gLen (aCons (dVar 0) aNil))))
  (sSet 2 (dOp gMod (dB gAbs (aCons (dOp gIx (dVar 0) (dVar 1)) aNil)) (dOp gPow (dOp gPow (dC (.int 10)) (dC (.int 60))) (dC (.int 10)))))
  sNil)
  (fLst (aCons (dOp gMulB (dVar 2) (dB gIntA (aCons (dOp gGe (dVar 2) (dOp gPow (dC (.int 10)) (dC (.int 18)))) aNil))) (aCons (dOp gMod (dOp gPow (dOp gAdd (dOp gAdd (dOp gMod (dVar 2) (dC (.int 2147483629))) (dOp gMulB (dC (.int 7919)) (dVar 1))) (dC (.int 1))) (dC (.int 5))) (dC (.int 2305843009213693951))) (aCons (dC (.int 0)) aNil))))))
def m__law_pot : List PyData → Option (List PyData) := fnF ["_law_script", "_law_k", "_law_cell"] 2 b__law_pot
theorem ok__law_pot (F : Std K mg "_law_pot" s__law_pot ["_law_script", "_law_k"]) (T : Tx K mg)  : Cal P w K mg base 1 "_law_pot" ["_law_script", "_law_k"] (spF K m__law_pot) := by
  refine calF F sc__law_pot (fun f cdv A outer s H E Z hr => ?_)
  unfold b__law_pot
  exact (rcons (sset (i := 2) sc__law_pot.nd rfl (by first | exact .inl rfl | exact .inr rfl) di)
  (rcons (sif (dtcmp op_ltA ok_lt (dv 1) (dcb call_len ok_len (by rfl) T.b_len boot_len (dac (dv 0) danil)) (nomark _))
  (sone (sset (i := 2) sc__law_pot.nd rfl (by first | exact .inl rfl | exact .inr rfl) (do_ op_mod ok_mod (dcb call_abs ok_abs (by rfl) T.b_abs (by decide +kernel) (dac (dix ix_seq ok_ix (dv 0) (dv 1)) danil)) (do_ op_powW ok_pow (do_ op_powW ok_pow di di) di))))
  snil)
  (rone (rret (flst (dac (do_ op_mulB ok_mulB (dv 2) (dcty call_intA ok_intA (by rfl) T.b_int (by decide +kernel) (dac (dcmp op_ge ok_ge (dv 2) (do_ op_powW ok_pow di di) (nomark _)) danil))) (dac (do_ op_mod ok_mod (do_ op_powW ok_pow (do_ op_addA ok_add (do_ op_addA ok_add (do_ op_mod ok_mod (dv 2) di) (do_ op_mulB ok_mulB di (dv 1))) di) di) di) (dac di danil))))))))
/-! #### _law_take -/
abbrev s__law_take : Stmt := topS 56
theorem sc__law_take : FnScope ["_law_pot_here", "_law_many", "_law_found", "_law_one", "_law_other"] ["_law_pot_here", "_law_many"] (defScope s__law_take) := ⟨rfl, rfl, rfl, by decide +kernel, rfl, by decide +kernel, by decide +kernel⟩
def b__law_take : DS := (sSeq (sIf (dTst (dOp gGt (dIxC 0 (dC (.int 0))) (dC (.int 0))))
  (sSeq (sSet 2 (dOp gMod (dIxC 0 (dC (.int 0))) (dVar 1)))
  (sSeq (sSetIx 0 (dOp gDiv (dIxC 0 (dC (.int 0))) (dVar 1)) (dC (.int 0)))
  (sRet (dVar 2))))
  sNil)
  (sSeq (sSetIx 0 (dOp gAdd (dIxC 0 (dC (.int 2))) (dC (.int 1))) (dC (.int 2)))
  (sSeq (sSet 3 (dOp gMod (dOp gPow (dOp gAdd (dIxC 0 (dC (.int 1))) (dOp gMulB (dC (.int 104729)) (dIxC 0 (dC (.int 2))))) (dC (.int 3))) (dC (.int 2305843009213693921))))
  (sSeq (sSet 4 (dOp gMod (dOp gPow (dOp gAdd (dOp gAdd (dVar 3) (dOp gMod (dIxC 0 (dC (.int 1))) (dC (.int 65537)))) (dOp gMulB (dC (.int 31)) (dIxC 0 (dC (.int 2))))) (dC (.int 5))) (dC (.int 2305843009213693907))))
  (sRet (dOp gMod (dOp gDiv (dVar 4) (dC (.int 1024))) (dVar 1)))))))
def m__law_take : List PyData → List PyData → Option (PyData × List PyData) := fnM ["_law_pot_here", "_law_many", "_law_found", "_law_one", "_law_other"] 2 b__law_take
theorem ok__law_take (F : Std K mg "_law_take" s__law_take ["_law_pot_here", "_law_many"]) (T : Tx K mg)  : Cal P w K mg base 1 "_law_take" ["_law_pot_here", "_law_many"] (spM K m__law_take) := by
  refine calM F sc__law_take (fun f cdv A outer s H E Z hr => ?_)
  unfold b__law_take
  exact (scons (sif (dtcmp op_gt ok_gt (dixC 0 (pv 0) di) di (nomark _))
  (scons (sset (i := 2) sc__law_take.nd rfl (by first | exact .inl rfl | exact .inr rfl) (do_ op_mod ok_mod (dixC 0 (pv 0) di) (dv 1)))
  (scons (ssetIx 0 (do_ op_fdivW ok_div (dixC 0 (pv 0) di) (dv 1)) (pv 0) di)
  (sone (sret (dv 2)))))
  snil)
  (scons (ssetIx 0 (do_ op_addA ok_add (dixC 0 (pv 0) di) di) (pv 0) di)
  (scons (sset (i := 3) sc__law_take.nd rfl (by first | exact .inl rfl | exact .inr rfl) (do_ op_mod ok_mod (do_ op_powW ok_pow (do_ op_addA ok_add (dixC 0 (pv 0) di) (do_ op_mulB ok_mulB di (dixC 0 (pv 0) di))) di) di))
  (scons (sset (i := 4) sc__law_take.nd rfl (by first | exact .inl rfl | exact .inr rfl) (do_ op_mod ok_mod (do_ op_powW ok_pow (do_ op_addA ok_add (do_ op_addA ok_add (dv 3) (do_ op_mod ok_mod (dixC 0 (pv 0) di) di)) (do_ op_mulB ok_mulB di (dixC 0 (pv 0) di))) di) di))
  (sone (sret (do_ op_mod ok_mod (do_ op_fdivW ok_div (dv 4) di) (dv 1))))))))
/-! #### _law_words -/
abbrev s__law_words : Stmt := topS 57
theorem sc__law_words : FnScope [] [] (defScope s__law_words) := ⟨rfl, rfl, rfl, by decide +kernel, rfl, by decide +kernel, by decide +kernel⟩
def b__law_words : DS := (sRet (dL (fLst (aCons (dC (.str "ask")) (aCons (dC (.str "pick")) (aCons (dC (.str "some")) (aCons (dC (.str "count")) (aCons (dC (.str "if")) (aCons (dC (.str "else")) (aCons (dC (.str "end")) (aCons (dC (.str "part")) (aCons (dC (.str "leave")) (aCons (dC (.str "each")) (aCons (dC (.str "hard")) (aCons (dC (.str "soft")) (aCons (dC (.str "is")) (aCons (dC (.str "has")) (aCons (dC (.str "from")) (aCons (dC (.str "to")) (aCons (dC (.str "not")) (aCons (dC (.str "and")) (aCons (dC (.str "or")) (aCons (dC (.str "any")) (aCons (dC (.str "every")) aNil))))))))))))))))))))))))
def m__law_words : List PyData → Option PyData := fnP [] 0 b__law_words
theorem ok__law_words (F : Std K mg "_law_words" s__law_words []) (T : Tx K mg)  : Cal P w K mg base 1 "_law_words" [] (spP K m__law_words) := by
  refine calP F sc__law_words (fun f cdv A outer s H E Z hr => ?_)
  unfold b__law_words
  exact (sone (sret (dfr (flst (dac ds (dac ds (dac ds (dac ds (dac ds (dac ds (dac ds (dac ds (dac ds (dac ds (dac ds (dac ds (dac ds (dac ds (dac ds (dac ds (dac ds (dac ds (dac ds (dac ds (dac ds danil)))))))))))))))))))))))))
/-! #### _law_name -/
abbrev s__law_name : Stmt := topS 58
theorem sc__law_name : FnScope ["_law_pot_here", "_law_letters", "_law_name_here", "_law_turn"] ["_law_pot_here"] (defScope s__law_name) := ⟨rfl, rfl, rfl, by decide +kernel, rfl, by decide +kernel, by decide +kernel⟩
def b__law_name : DS := (sSeq (sIf (dTst (dOp gEq (dCallM m__law_take 0 (aCons (dC (.int 4)) aNil)) (dC (.int 0))))
  (sRet (dOp gIx (dL (fLst (aCons (dC (.str "isa")) (aCons (dC (.str "no")) (aCons (dC (.str "a")) (aCons (dC (.str "zzzzzzzz")) (aCons (dC (.str "ends")) (aCons (dC (.str "ifs")) (aCons (dC (.str "hase")) (aCons (dC (.str "fro")) (aCons (dC (.str "t")) (aCons (dC (.str "picks")) (aCons (dC (.str "an")) (aCons (dC (.str "counts")) aNil)))))))))))))) (dCallM m__law_take 0 (aCons (dC (.int 12)) aNil))))
  sNil)
  (sSeq (sSet 1 (dC (.str "abcdefghijklmnopqrstuvwxyz")))
  (sSeq (sSet 2 (dC (.str "")))
  (sSeq (sFor (itR1 (dOp gAdd (dC (.int 1)) (dCallM m__law_take 0 (aCons (dC (.int 8)) aNil)))) (tgN 3)
  (sSet 2 (dOp gAdd (dVar 2) (dOp gIx (dVar 1) (dCallM m__law_take 0 (aCons (dC (.int 26)) aNil))))))
  (sSeq (sIf (dTst (dOp (gIn false) (dVar 2) (dCall m__law_words aNil)))
  (sSet 2 (dOp gAdd (dVar 2) (dC (.str "q"))))
  sNil)
  (sRet (dVar 2)))))))
def m__law_name : List PyData → List PyData → Option (PyData × List PyData) := fnM ["_law_pot_here", "_law_letters", "_law_name_here", "_law_turn"] 1 b__law_name
theorem ok__law_name (F : Std K mg "_law_name" s__law_name ["_law_pot_here"]) (T : Tx K mg) (c__law_take : Cal P w K mg base 1 "_law_take" ["_law_pot_here", "_law_many"] (spM K m__law_take)) (c__law_words : Cal P w K mg base 1 "_law_words" [] (spP K m__law_words)) : Cal P w K mg base 2 "_law_name" ["_law_pot_here"] (spM K m__law_name) := by
  refine calM F sc__law_name (fun f cdv A outer s H E Z hr => ?_)
  unfold b__law_name
  exact (scons (sif (dtcmp (op_eqA hr.units) ok_eq (dclM 0 c__law_take hr (by decide) (by rfl) (pv 0) (dac di danil)) di (nomark _))
  (sone (sret (dix ix_seq ok_ix (dfr (flst (dac ds (dac ds (dac ds (dac ds (dac ds (dac ds (dac ds (dac ds (dac ds (dac ds (dac ds (dac ds danil)))))))))))))) (dclM 0 c__law_take hr (by decide) (by rfl) (pv 0) (dac di danil)))))
  snil)
  (scons (sset (i := 1) sc__law_name.nd rfl (by first | exact .inl rfl | exact .inr rfl) ds)
  (scons (sset (i := 2) sc__law_name.nd rfl (by first | exact .inl rfl | exact .inr rfl) ds)
  (scons (sfor PassesOwn.never rfl (pir1 (by rfl) T.b_range (do_ op_addA ok_add di (dclM 0 c__law_take hr (by decide) (by rfl) (pv 0) (dac di danil)))) (pg_name (i := 3) sc__law_name.nd rfl (by first | exact .inl rfl | exact .inr rfl)) tgn
  (sone (sset (i := 2) sc__law_name.nd rfl (by first | exact .inl rfl | exact .inr rfl) (do_ op_addA ok_add (dv 2) (dix ix_seq ok_ix (dv 1) (dclM 0 c__law_take hr (by decide) (by rfl) (pv 0) (dac di danil)))))))
  (scons (sif (dtcmp (op_inA (hu_of hr)) ok_in (dv 2) (dcl0 c__law_words hr (by decide) (by rfl)) (by first | rfl | with_unfolding_all rfl))
  (sone (sset (i := 2) sc__law_name.nd rfl (by first | exact .inl rfl | exact .inr rfl) (do_ op_addA ok_add (dv 2) ds)))
  snil)
  (sone (sret (dv 2))))))))
/-! #### _law_is_name -/
abbrev s__law_is_name : Stmt := topS 59
theorem sc__law_is_name : FnScope ["_law_thing", "_law_sign"] ["_law_thing"] (defScope s__law_is_name) := ⟨rfl, rfl, rfl, by decide +kernel, rfl, by decide +kernel, by decide +kernel⟩
def b__law_is_name : DS := (sSeq (sIf (dOrT (dNotT (dTst (dUn (gIsi "str") (dVar 0)))) (dOrT (dNotT (dTst (dChain gLe gLe (dC (.int 1)) (dB gLen (aCons (dVar 0) aNil)) (dC (.int 8))))) (dTst (dOp (gIn false) (dVar 0) (dCall m__law_words aNil)))))
  (sRet (dC (.bool false)))
  sNil)
  (sRet (dOp gEq (dL (fLc (itA (dVar 0)) 1 (dNotT (dTst (dChain gLe gLe (dC (.str "a")) (dVar 1) (dC (.str "z"))))) (dVar 1))) (dL (fLst aNil)))))
def m__law_is_name : List PyData → Option PyData := fnP ["_law_thing", "_law_sign"] 1 b__law_is_name
theorem ok__law_is_name (F : Std K mg "_law_is_name" s__law_is_name ["_law_thing"]) (T : Tx K mg) (c__law_words : Cal P w K mg base 1 "_law_words" [] (spP K m__law_words)) : Cal P w K mg base 2 "_law_is_name" ["_law_thing"] (spP K m__law_is_name) := by
  refine calP F sc__law_is_name (fun f cdv A outer s H E Z hr => ?_)
  unfold b__law_is_name
  exact (scons (sif (PW.pt (dtor (dtnot (dt (disi isi_str (by rfl) T.b_isinstance (by decide +kernel) (by rfl) T.b_str (by decide +kernel) (dv 0)))) (dtor (dtnot (dtchain op_leA ok_le op_leA ok_le di (dcb call_len ok_len (by rfl) T.b_len boot_len (dac (dv 0) danil)) di)) (pw_or1 (dtcmp (op_inA (hu_of hr)) ok_in (dv 0) (dcl0 c__law_words hr (by decide) (by rfl)) (by first | rfl | with_unfolding_all rfl))))))
  (sone (sret db))
  snil)
  (sone (sret (dcmp (op_eqA hr.units) ok_eq (dfr (flc rfl sc__law_is_name.nd (pia (dv 0)) (blkOk_by (own := [("_law_sign", 1)]) (N := ["_law_thing", "_law_sign"]) (sc := defScope s__law_is_name) (by decide +kernel)) (fun _ _ _ _ _ => pg_name (i := 1) sc__law_is_name.nd rfl (Or.inl rfl)) (fun _ _ _ _ _ _ => (pts_one (dtnot (dtchain op_leA ok_le op_leA ok_le ds (dv 1) ds)))) (fun _ _ _ _ _ _ => (dv 1)))) (dfr (flst danil)) (nomark _)))))
/-! #### _law_is_within -/
abbrev s__law_is_within : Stmt := topS 60
theorem sc__law_is_within : FnScope ["_law_thing", "_law_low", "_law_high"] ["_law_thing", "_law_low", "_law_high"] (defScope s__law_is_within) := ⟨rfl, rfl, rfl, by decide +kernel, rfl, by decide +kernel, by decide +kernel⟩
def b__law_is_within : DS := (sRet (dAnd (dUn (gIsi "int") (dVar 0)) (dAnd (dNot (dUn (gIsi "bool") (dVar 0))) (dChain gLe gLe (dVar 1) (dVar 0) (dVar 2)))))
def m__law_is_within : List PyData → Option PyData := fnP ["_law_thing", "_law_low", "_law_high"] 3 b__law_is_within
theorem ok__law_is_within (F : Std K mg "_law_is_within" s__law_is_within ["_law_thing", "_law_low", "_law_high"]) (T : Tx K mg)  : Cal P w K mg base 1 "_law_is_within" ["_law_thing", "_law_low", "_law_high"] (spP K m__law_is_within) := by
  refine calP F sc__law_is_within (fun f cdv A outer s H E Z hr => ?_)
  unfold b__law_is_within
  exact (sone (sret (dand (disi isi_int (by rfl) T.b_isinstance (by decide +kernel) (by rfl) T.b_int (by decide +kernel) (dv 0)) (dand (dnot (disi isi_bool (by rfl) T.b_isinstance (by decide +kernel) (by rfl) T.b_bool (by decide +kernel) (dv 0))) (pe_one (dchain op_leA ok_le op_leA ok_le (dv 1) (dv 0) (dv 2)))))))
/-! #### _law_odd -/
abbrev s__law_odd : Stmt := topS 61
theorem sc__law_odd : FnScope ["_law_pot_here"] ["_law_pot_here"] (defScope s__law_odd) := ⟨rfl, rfl, rfl, by decide +kernel, rfl, by decide +kernel, by decide +kernel⟩
def b__law_odd : DS := (sRet (dOp gIx (dL (fLst (aCons (dC .none) (aCons (dC (.bool true)) (aCons (dC (.bool false)) (aCons (dC (.str "")) (aCons (dC (.str "ask")) (aCons (dC (.str "A")) (aCons (dC (.str "a1")) (aCons (dC (.str "ninelongs")) (aCons (dC (.int 0)) (aCons (dUn gNeg (dC (.int 1))) (aCons (dOp gAdd (dOp gPow (dC (.int 10)) (dC (.int 6))) (dC (.int 1))) (aCons (dOp gPow (dC (.int 10)) (dC (.int 39))) (aCons (dTup aNil) (aCons (dL (fLst aNil)) (aCons (dC (.dict [])) (aCons (dTup (aCons (dC (.str "a")) aNil)) (aCons (dC (.str "a b")) (aCons (dC (.str "z")) (aCons (dC (.str "every")) (aCons (dL (fLst (aCons (dC (.str "a")) aNil))) (aCons (dTup (aCons (dTup aNil) aNil)) (aCons (dC (.str "count")) aNil)))))))))))))))))))))))) (dCallM m__law_take 0 (aCons (dC (.int 22)) aNil))))
def m__law_odd : List PyData → List PyData → Option (PyData × List PyData) := fnM ["_law_pot_here"] 1 b__law_odd
theorem ok__law_odd (F : Std K mg "_law_odd" s__law_odd ["_law_pot_here"]) (T : Tx K mg) (c__law_take : Cal P w K mg base 1 "_law_take" ["_law_pot_here", "_law_many"] (spM K m__law_take)) : Cal P w K mg base 2 "_law_odd" ["_law_pot_here"] (spM K m__law_odd) := by
  refine calM F sc__law_odd (fun f cdv A outer s H E Z hr => ?_)
  unfold b__law_odd
  exact (sone (sret (dix ix_seq ok_ix (dfr (flst (dac dn (dac db (dac db (dac ds (dac ds (dac ds (dac ds (dac ds (dac di (dac (du un_neg ok_neg di) (dac (do_ op_addA ok_add (do_ op_powW ok_pow di di) di) (dac (do_ op_powW ok_pow di di) (dac (dtup danil) (dac (dfr (flst danil)) (dac ddct (dac (dtup (dac ds danil)) (dac ds (dac ds (dac ds (dac (dfr (flst (dac ds danil))) (dac (dtup (dac (dtup danil) danil)) (dac ds danil)))))))))))))))))))))))) (dclM 0 c__law_take hr (by decide) (by rfl) (pv 0) (dac di danil)))))
/-! #### _law_bent -/
abbrev s__law_bent : Stmt := topS 62
theorem sc__law_bent : FnScope ["_law_pot_here", "_law_thing", "_law_deep", "_law_way", "_law_odd_here", "_law_at", "_law_sign", "_law_some"] ["_law_pot_here", "_law_thing", "_law_deep"] (defScope s__law_bent) := ⟨rfl, rfl, rfl, by decide +kernel, rfl, by decide +kernel, by decide +kernel⟩
def b__law_bent (self : List PyData → List PyData → Option (PyData × List PyData)) : DS := (sSeq (sSet 3 (dCallM m__law_take 0 (aCons (dC (.int 8)) aNil)))
  (sSeq (sSet 4 (dCallM m__law_odd 0 aNil))
  (sSeq (sIf (dAndT (dTst (dUn (gIsi "str") (dVar 1))) (dTst (dOp gLt (dVar 3) (dC (.int 6)))))
  (sSeq (sSet 5 (dCallM m__law_take 0 (aCons (dOp gAdd (dB gLen (aCons (dVar 1) aNil)) (dC (.int 1))) aNil)))
  (sSeq (sSet 6 (dOp gIx (dL (fLst (aCons (dC (.str "a")) (aCons (dC (.str "z")) (aCons (dC (.str " ")) (aCons (dC (.str "A")) (aCons (dC (.str "1")) (aCons (dC (.str "-")) aNil)))))))) (dVar 3)))
  (sRet (dOp gIx (dL (fLst (aCons (dOp gAdd (dOp gAdd (dSl (dVar 1) oN (oS (dVar 5))) (dVar 6)) (dSl (dVar 1) (oS (dVar 5)) oN)) (aCons (dOp gAdd (dSl (dVar 1) oN (oS (dVar 5))) (dSl (dVar 1) (oS (dOp gAdd (dVar 5) (dC (.int 1)))) oN)) aNil)))) (dCallM m__law_take 0 (aCons (dC (.int 2)) aNil))))))
  sNil)
  (sSeq (sIf (dNotT (dTst (dUn (gIsi "tuple") (dVar 1))))
  (sSeq (sIf (dOrT (dNotT (dTst (dUn (gIsi "int") (dVar 1)))) (dOrT (dTst (dUn (gIsi "bool") (dVar 1))) (dTst (dOp gGt (dVar 3) (dC (.int 5))))))
  (sRet (dVar 4))
  sNil)
  (sRet (dOp gAdd (dVar 1) (dOp gIx (dL (fLst (aCons (dC (.int 1)) (aCons (dUn gNeg (dC (.int 1))) (aCons (dC (.int 2)) (aCons (dUn gNeg (dC (.int 2))) (aCons (dOp gPow (dC (.int 10)) (dC (.int 6))) (aCons (dUn gNeg (dOp gPow (dC (.int 10)) (dC (.int 6)))) aNil)))))))) (dVar 3)))))
  sNil)
  (sSeq (sSet 5 (dCallM m__law_take 0 (aCons (dB gMax2 (aCons (dC (.int 1)) (aCons (dB gLen (aCons (dVar 1) aNil)) aNil))) aNil)))
  (sSeq (sIf (dAndT (dTst (dOp gGt (dVar 2) (dC (.int 0)))) (dAndT (dTst (dOp gNe (dVar 1) (dTup aNil))) (dTst (dOp gGt (dCallM m__law_take 0 (aCons (dC (.int 4)) aNil)) (dC (.int 0))))))
  (sRet (dOp gAdd (dOp gAdd (dSl (dVar 1) oN (oS (dVar 5))) (dTup (aCons (dCallM self 0 (aCons (dOp gIx (dVar 1) (dVar 5)) (aCons (dOp gSub (dVar 2) (dC (.int 1))) aNil))) aNil))) (dSl (dVar 1) (oS (dOp gAdd (dVar 5) (dC (.int 1)))) oN)))
  sNil)
  (sSeq (sSet 7 (dL (fLst (aCons (dOp gAdd (dSl (dVar 1) oN (oS (dVar 5))) (dSl (dVar 1) (oS (dOp gAdd (dVar 5) (dC (.int 1)))) oN)) (aCons (dOp gAdd (dSl (dVar 1) oN (oS (dOp gAdd (dVar 5) (dC (.int 1))))) (dSl (dVar 1) (oS (dVar 5)) oN)) aNil)))))
  (sSeq (sSet 7 (dOp gAdd (dVar 7) (dL (fLst (aCons (dOp gAdd (dOp gAdd (dSl (dVar 1) oN (oS (dVar 5))) (dTup (aCons (dVar 4) aNil))) (dSl (dVar 1) (oS (dVar 5)) oN)) (aCons (dUn gRev (dVar 1)) (aCons (dB gList (aCons (dVar 1) aNil)) aNil)))))))
  (sRet (dOp gIx (dOp gAdd (dVar 7) (dL (fLst (aCons (dOp gAdd (dSl (dVar 1) (oS (dVar 5)) oN) (dSl (dVar 1) oN (oS (dVar 5)))) (aCons (dOp gAdd (dVar 1) (dTup (aCons (dVar 4) aNil))) (aCons (dVar 4) aNil)))))) (dVar 3)))))))))))
def m__law_bent : Nat → List PyData → List PyData → Option (PyData × List PyData)
  | 0 => fun _ _ => none
  | n + 1 => fnM ["_law_pot_here", "_law_thing", "_law_deep", "_law_way", "_law_odd_here", "_law_at", "_law_sign", "_law_some"] 3 (b__law_bent (m__law_bent n))
theorem ok__law_bent (F : Std K mg "_law_bent" s__law_bent ["_law_pot_here", "_law_thing", "_law_deep"]) (T : Tx K mg) (c__law_take : Cal P w K mg base 1 "_law_take" ["_law_pot_here", "_law_many"] (spM K m__law_take)) (c__law_odd : Cal P w K mg base 2 "_law_odd" ["_law_pot_here"] (spM K m__law_odd)) : ∀ n : Nat, Cal P w K mg base (2 + n) "_law_bent" ["_law_pot_here", "_law_thing", "_law_deep"] (spM K (m__law_bent n))
  | 0 => F.noneM _
  | n + 1 => by
    have ih := ok__law_bent F T c__law_take c__law_odd n
    refine calM F sc__law_bent (fun f cdv A outer s H E Z hr => ?_)
    unfold b__law_bent
    exact (scons (sset (i := 3) sc__law_bent.nd rfl (by first | exact .inl rfl | exact .inr rfl) (dclM 0 c__law_take hr (by first | exact Nat.le_add_right _ _ | (show _ ≤ Nat.add _ _; simp only [Nat.add_eq]; omega)) (by rfl) (pv 0) (dac di danil)))
  (scons (sset (i := 4) sc__law_bent.nd rfl (by first | exact .inl rfl | exact .inr rfl) (dclM 0 c__law_odd hr (by first | exact Nat.le_add_right _ _ | (show _ ≤ Nat.add _ _; simp only [Nat.add_eq]; omega)) (by rfl) (pv 0) danil))
  (scons (sif (PW.pt (dtand (dt (disi isi_str (by rfl) T.b_isinstance (by decide +kernel) (by rfl) T.b_str (by decide +kernel) (dv 1))) (pw_and1 (dtcmp op_ltA ok_lt (dv 3) di (nomark _)))))
  (scons (sset (i := 5) sc__law_bent.nd rfl (by first | exact .inl rfl | exact .inr rfl) (dclM 0 c__law_take hr (by first | exact Nat.le_add_right _ _ | (show _ ≤ Nat.add _ _; simp only [Nat.add_eq]; omega)) (by rfl) (pv 0) (dac (do_ op_addA ok_add (dcb call_len ok_len (by rfl) T.b_len boot_len (dac (dv 1) danil)) di) danil)))
  (scons (sset (i := 6) sc__law_bent.nd rfl (by first | exact .inl rfl | exact .inr rfl) (dix ix_seq ok_ix (dfr (flst (dac ds (dac ds (dac ds (dac ds (dac ds (dac ds danil)))))))) (dv 3)))
  (sone (sret (dix ix_seq ok_ix (dfr (flst (dac (do_ op_addA ok_add (do_ op_addA ok_add (dsl (dv 1) don (dos (dv 5))) (dv 6)) (dsl (dv 1) (dos (dv 5)) don)) (dac (do_ op_addA ok_add (dsl (dv 1) don (dos (dv 5))) (dsl (dv 1) (dos (do_ op_addA ok_add (dv 5) di)) don)) danil)))) (dclM 0 c__law_take hr (by first | exact Nat.le_add_right _ _ | (show _ ≤ Nat.add _ _; simp only [Nat.add_eq]; omega)) (by rfl) (pv 0) (dac di danil)))))))
  snil)
  (scons (sif (dtnot (dt (disi isi_tuple (by rfl) T.b_isinstance (by decide +kernel) (by rfl) T.b_tuple (by decide +kernel) (dv 1))))
  (scons (sif (PW.pt (dtor (dtnot (dt (disi isi_int (by rfl) T.b_isinstance (by decide +kernel) (by rfl) T.b_int (by decide +kernel) (dv 1)))) (dtor (dt (disi isi_bool (by rfl) T.b_isinstance (by decide +kernel) (by rfl) T.b_bool (by decide +kernel) (dv 1))) (pw_or1 (dtcmp op_gt ok_gt (dv 3) di (nomark _))))))
  (sone (sret (dv 4)))
  snil)
  (sone (sret (do_ op_addA ok_add (dv 1) (dix ix_seq ok_ix (dfr (flst (dac di (dac (du un_neg ok_neg di) (dac di (dac (du un_neg ok_neg di) (dac (do_ op_powW ok_pow di di) (dac (du un_neg ok_neg (do_ op_powW ok_pow di di)) danil)))))))) (dv 3))))))
  snil)
  (scons (sset (i := 5) sc__law_bent.nd rfl (by first | exact .inl rfl | exact .inr rfl) (dclM 0 c__law_take hr (by first | exact Nat.le_add_right _ _ | (show _ ≤ Nat.add _ _; simp only [Nat.add_eq]; omega)) (by rfl) (pv 0) (dac (dcb (call_max2 rfl) ok_max2 (by rfl) T.b_max (by decide +kernel) (dac di (dac (dcb call_len ok_len (by rfl) T.b_len boot_len (dac (dv 1) danil)) danil))) danil)))
  (scons (sif (PW.pt (dtand (dtcmp op_gt ok_gt (dv 2) di (nomark _)) (dtand (dtcmp (op_neA hr.units) ok_ne (dv 1) (dtup danil) (nomark _)) (pw_and1 (dtcmp op_gt ok_gt (dclM 0 c__law_take hr (by first | exact Nat.le_add_right _ _ | (show _ ≤ Nat.add _ _; simp only [Nat.add_eq]; omega)) (by rfl) (pv 0) (dac di danil)) di (nomark _))))))
  (sone (sret (do_ op_addA ok_add (do_ op_addA ok_add (dsl (dv 1) don (dos (dv 5))) (dtup (dac (dclM 0 ih hr (Nat.le_refl _) (by rfl) (pv 0) (dac (dix ix_seq ok_ix (dv 1) (dv 5)) (dac (do_ op_sub ok_sub (dv 2) di) danil))) danil))) (dsl (dv 1) (dos (do_ op_addA ok_add (dv 5) di)) don))))
  snil)
  (scons (sset (i := 7) sc__law_bent.nd rfl (by first | exact .inl rfl | exact .inr rfl) (dfr (flst (dac (do_ op_addA ok_add (dsl (dv 1) don (dos (dv 5))) (dsl (dv 1) (dos (do_ op_addA ok_add (dv 5) di)) don)) (dac (do_ op_addA ok_add (dsl (dv 1) don (dos (do_ op_addA ok_add (dv 5) di))) (dsl (dv 1) (dos (dv 5)) don)) danil)))))
  (scons (sset (i := 7) sc__law_bent.nd rfl (by first | exact .inl rfl | exact .inr rfl) (do_ op_addA ok_add (dv 7) (dfr (flst (dac (do_ op_addA ok_add (do_ op_addA ok_add (dsl (dv 1) don (dos (dv 5))) (dtup (dac (dv 4) danil))) (dsl (dv 1) (dos (dv 5)) don)) (dac (drev (dv 1)) (dac (dcty call_list_of ok_list (by rfl) T.b_list (by decide +kernel) (dac (dv 1) danil)) danil)))))))
  (sone (sret (dix ix_seq ok_ix (do_ op_addA ok_add (dv 7) (dfr (flst (dac (do_ op_addA ok_add (dsl (dv 1) (dos (dv 5)) don) (dsl (dv 1) don (dos (dv 5)))) (dac (do_ op_addA ok_add (dv 1) (dtup (dac (dv 4) danil))) (dac (dv 4) danil)))))) (dv 3))))))))))))
/-! #### _law_word -/
abbrev s__law_word : Stmt := topS 63
theorem sc__law_word : FnScope ["_law_call", "_law_caught", "e", "_law_kinds", "_law_others"] ["_law_call"] (defScope s__law_word) := ⟨rfl, rfl, rfl, by decide +kernel, rfl, by decide +kernel, by decide +kernel⟩
def b__law_word : DS := (sSeq (sIf (dTst (dOp gIsN (dVar 1) (dC .none)))
  (sRet (dC (.str "told")))
  sNil)
  (sSeq (sSet 3 (dL (fLst (aCons (dUn (gIsE nm_ "NoKind") (dVar 1)) (aCons (dUn (gIsE nm_ "NoValue") (dVar 1)) (aCons (dUn (gIsE nm_ "NoCondition") (dVar 1)) aNil))))))
  (sSeq (sOwn 4 (fLst (aCons (dUn (gIsEs nm_ ["NoForm", "NoKey", "TooWide", "Stuck", "NoBook", "Clash", "Full", "NoNames"]) (dVar 1)) aNil)))
  (sSeq (sApp 4 (dUn (gIsEs nm_ ["NoEntry", "NoCheck", "Twice", "NoLines", "NoRound", "NoWeights", "NoTable"]) (dVar 1)))
  (sSeq (sApp 4 (dUn (gIsEs nm_ ["NoFits", "NoTotals", "NoCounts", "NoPlaces", "NoPlace", "NoText", "NoLine"]) (dVar 1)))
  (sSeq (sApp 4 (dUn (gIsEs nm_ ["CannotGo", "NoRecord", "NoFit"]) (dVar 1)))
  (sSeq (sIf (dOrT (dTst (dOp gNe (dOp gCount (dVar 3) (dC (.bool true))) (dC (.int 1)))) (dOrT (dTst (dInC false (dC (.bool true)) 4)) (dNotT (dTst (dUn (gIsEV nm_) (dVar 1))))))
  (sRet (dC (.str "odd")))
  sNil)
  (sRet (dOp gIx (dL (fLst (aCons (dC (.str "kind")) (aCons (dC (.str "value")) (aCons (dC (.str "condition")) aNil))))) (dOp gIndex (dVar 3) (dC (.bool true))))))))))))
def w__law_word : Option Str → Option Str := wordOf nm_ 3 b__law_word
theorem ok__law_word (T : Tx K mg) (Fx : ExF K mg nm_ ts_) {k : Nat} (g : Addr) (cdv : Value) (A : Around) (outer : List Env) (s : Shared) (H : Hp) (Z : Par) (hr : Room k (A.deeper (envOfC "_law_word" (defScope s__law_word) s.heap.objs.size g cdv))) : PSs (cxOf C8.CX0 P w K mg base ["_law_call", "_law_caught", "e", "_law_kinds", "_law_others"] "_law_word" (defScope s__law_word) g cdv A outer s H C8.E0).nox ((defBody s__law_word).drop 2) (lfS K Z b__law_word) := by
  unfold b__law_word
  exact (scons (sif (dtcmp op_isN ok_isN (dv 1) dn (nomark _))
  (sone (sret ds))
  snil)
  (scons (sset (i := 3) sc__law_word.nd rfl (by first | exact .inl rfl | exact .inr rfl) (dfr (flst (dac (disX Fx (by decide) (by rfl) T.b_isinstance (by decide +kernel) (by rfl) (dv 1)) (dac (disX Fx (by decide) (by rfl) T.b_isinstance (by decide +kernel) (by rfl) (dv 1)) (dac (disX Fx (by decide) (by rfl) T.b_isinstance (by decide +kernel) (by rfl) (dv 1)) danil))))))
  (scons (sown (i := 4) sc__law_word.nd rfl (by first | exact .inl rfl | exact .inr rfl) (flst (dac (disXs Fx (by decide) (by decide) (by rfl) T.b_isinstance (by decide +kernel) (clsCons (Fx.at_ "NoForm" (by decide)) (by rfl) (clsCons (Fx.at_ "NoKey" (by decide)) (by rfl) (clsCons (Fx.at_ "TooWide" (by decide)) (by rfl) (clsCons (Fx.at_ "Stuck" (by decide)) (by rfl) (clsCons (Fx.at_ "NoBook" (by decide)) (by rfl) (clsCons (Fx.at_ "Clash" (by decide)) (by rfl) (clsCons (Fx.at_ "Full" (by decide)) (by rfl) (clsCons (Fx.at_ "NoNames" (by decide)) (by rfl) clsNil)))))))) (dv 1)) danil)))
  (scons (sapp 4 (pv 4) (disXs Fx (by decide) (by decide) (by rfl) T.b_isinstance (by decide +kernel) (clsCons (Fx.at_ "NoEntry" (by decide)) (by rfl) (clsCons (Fx.at_ "NoCheck" (by decide)) (by rfl) (clsCons (Fx.at_ "Twice" (by decide)) (by rfl) (clsCons (Fx.at_ "NoLines" (by decide)) (by rfl) (clsCons (Fx.at_ "NoRound" (by decide)) (by rfl) (clsCons (Fx.at_ "NoWeights" (by decide)) (by rfl) (clsCons (Fx.at_ "NoTable" (by decide)) (by rfl) clsNil))))))) (dv 1)))
  (scons (sapp 4 (pv 4) (disXs Fx (by decide) (by decide) (by rfl) T.b_isinstance (by decide +kernel) (clsCons (Fx.at_ "NoFits" (by decide)) (by rfl) (clsCons (Fx.at_ "NoTotals" (by decide)) (by rfl) (clsCons (Fx.at_ "NoCounts" (by decide)) (by rfl) (clsCons (Fx.at_ "NoPlaces" (by decide)) (by rfl) (clsCons (Fx.at_ "NoPlace" (by decide)) (by rfl) (clsCons (Fx.at_ "NoText" (by decide)) (by rfl) (clsCons (Fx.at_ "NoLine" (by decide)) (by rfl) clsNil))))))) (dv 1)))
  (scons (sapp 4 (pv 4) (disXs Fx (by decide) (by decide) (by rfl) T.b_isinstance (by decide +kernel) (clsCons (Fx.at_ "CannotGo" (by decide)) (by rfl) (clsCons (Fx.at_ "NoRecord" (by decide)) (by rfl) (clsCons (Fx.at_ "NoFit" (by decide)) (by rfl) clsNil))) (dv 1)))
  (scons (sif (PW.pt (dtor (dtcmp (op_neA hr.units) ok_ne (dcount (dv 3) db) di (nomark _)) (dtor (dtinC false op_in_seq 4 db (pv 4) (by first | rfl | with_unfolding_all rfl)) (pw_or1 (dtnot (dt (disV Fx (by rfl) T.b_isinstance (by decide +kernel) (by rfl) T.b_ValueError (by decide +kernel) (dv 1))))))))
  (sone (sret ds))
  snil)
  (sone (sret (dix ix_seq ok_ix (dfr (flst (dac ds (dac ds (dac ds danil))))) (dindex (dv 3) db)))))))))))
theorem wg__law_word {X : Cx} (T : Tx X.K X.mg) (Fx : ExF X.K X.mg nm_ ts_) {k : Nat} (hr : Room (k + 1) X.A) (q : Str) (g : Addr) (cdv : Value) : LamX.GivesTo X ["_law_call", "_law_caught", "e", "_law_kinds", "_law_others"] "_law_word" (defScope s__law_word) g cdv (defBody s__law_word) "_law_call" q (TTw X.K nm_ w__law_word) :=
  word_gives (rest := (defBody s__law_word).drop 2) (b := b__law_word) rfl sc__law_word.nd Fx rfl rfl rfl rfl (.inl rfl) rfl (fun C e1 e2 => by rfl) (fun C e1 => by rfl) (fun C e1 => by rfl) rfl rfl (fun f s H Z => ok__law_word T Fx g cdv X.A X.stack s H Z (hr.deeper _))
/-! #### _law_names -/
abbrev s__law_names : Stmt := topS 64
theorem sc__law_names : FnScope ["_law_pot_here", "_law_found", "_law_turn", "_law_name_here", "_law_other"] ["_law_pot_here"] (defScope s__law_names) := ⟨rfl, rfl, rfl, by decide +kernel, rfl, by decide +kernel, by decide +kernel⟩
def b__law_names : DS := (sSeq (sOwn 1 (fLst aNil))
  (sSeq (sFor (itR1 (dC (.int 4))) (tgN 2)
  (sSeq (sSet 3 (dCallM m__law_name 0 aNil))
  (sSeq (sIf (dTst (dInC false (dVar 3) 1))
  (sSet 3 (dOp gIx (dL (fLc (itA (dTup (aCons (dC (.str "xa")) (aCons (dC (.str "xb")) (aCons (dC (.str "xc")) (aCons (dC (.str "xd")) (aCons (dC (.str "xe")) aNil))))))) 4 (dTst (dInC true (dVar 4) 1)) (dVar 4))) (dC (.int 0))))
  sNil)
  (sApp 1 (dVar 3)))))
  (sSeq (sFrz 1) (sRet (dVar 1)))))
def m__law_names : List PyData → List PyData → Option (PyData × List PyData) := fnM ["_law_pot_here", "_law_found", "_law_turn", "_law_name_here", "_law_other"] 1 b__law_names
theorem ok__law_names (F : Std K mg "_law_names" s__law_names ["_law_pot_here"]) (T : Tx K mg) (c__law_name : Cal P w K mg base 2 "_law_name" ["_law_pot_here"] (spM K m__law_name)) : Cal P w K mg base 3 "_law_names" ["_law_pot_here"] (spM K m__law_names) := by
  refine calM F sc__law_names (fun f cdv A outer s H E Z hr => ?_)
  unfold b__law_names
  exact (scons (sown (i := 1) sc__law_names.nd rfl (by first | exact .inl rfl | exact .inr rfl) (flst danil))
  (scons (sfor PassesOwn.never rfl (pir1 (by rfl) T.b_range di) (pg_name (i := 2) sc__law_names.nd rfl (by first | exact .inl rfl | exact .inr rfl)) tgn
  (scons (sset (i := 3) sc__law_names.nd rfl (by first | exact .inl rfl | exact .inr rfl) (dclM 0 c__law_name hr (by decide) (by rfl) (pv 0) danil))
  (scons (sif (dtinC false op_in_seq 1 (dv 3) (pv 1) (by first | rfl | with_unfolding_all rfl))
  (sone (sset (i := 3) sc__law_names.nd rfl (by first | exact .inl rfl | exact .inr rfl) (dix ix_seq ok_ix (dfr (flc rfl sc__law_names.nd (pia (dtup (dac ds (dac ds (dac ds (dac ds (dac ds danil))))))) (blkOk_by (own := [("_law_other", 4)]) (N := ["_law_pot_here", "_law_found", "_law_turn", "_law_name_here", "_law_other"]) (sc := defScope s__law_names) (by decide +kernel)) (fun _ _ _ _ _ => pg_name (i := 4) sc__law_names.nd rfl (Or.inl rfl)) (fun _ _ _ _ _ _ => (pts_one (dtinC true op_notIn_seq 1 (dv 4) (pv 1) (by first | rfl | with_unfolding_all rfl)))) (fun _ _ _ _ _ _ => (dv 4)))) di)))
  snil)
  (sone (sapp 1 (pv 1) (dv 3))))))
  (sfrz (i := 1) (sone (sret (dv 1))))))
/-! #### _law_piece -/
abbrev s__law_piece : Stmt := topS 65
theorem sc__law_piece : FnScope ["_law_pot_here", "_law_names_here", "_law_name_here", "_law_option", "_law_way"] ["_law_pot_here", "_law_names_here"] (defScope s__law_piece) := ⟨rfl, rfl, rfl, by decide +kernel, rfl, by decide +kernel, by decide +kernel⟩
def b__law_piece : DS := (sSeq (sPar 2 3 (dOp gIx (dVar 1) (dCallM m__law_take 0 (aCons (dB gLen (aCons (dVar 1) aNil)) aNil))) (dOp gIx (dVar 1) (dCallM m__law_take 0 (aCons (dB gLen (aCons (dVar 1) aNil)) aNil))))
  (sSeq (sSet 4 (dCallM m__law_take 0 (aCons (dC (.int 4)) aNil)))
  (sSeq (sIf (dTst (dOp gLt (dVar 4) (dC (.int 2))))
  (sRet (dTup (aCons (dOp gIx (dL (fLst (aCons (dC (.str "is")) (aCons (dC (.str "has")) aNil)))) (dVar 4)) (aCons (dVar 2) (aCons (dVar 3) aNil)))))
  sNil)
  (sRet (dTup (aCons (dOp gIx (dL (fLst (aCons (dC (.str "from")) (aCons (dC (.str "to")) aNil)))) (dOp gSub (dVar 4) (dC (.int 2)))) (aCons (dVar 2) (aCons (dOp gIx (dL (fLst (aCons (dC (.int 0)) (aCons (dC (.int 1)) (aCons (dC (.int 2)) (aCons (dC (.int 3)) (aCons (dOp gPow (dC (.int 10)) (dC (.int 6))) (aCons (dCallM m__law_take 0 (aCons (dOp gAdd (dOp gPow (dC (.int 10)) (dC (.int 6))) (dC (.int 1))) aNil)) aNil)))))))) (dCallM m__law_take 0 (aCons (dC (.int 6)) aNil))) aNil))))))))
def m__law_piece : List PyData → List PyData → Option (PyData × List PyData) := fnM ["_law_pot_here", "_law_names_here", "_law_name_here", "_law_option", "_law_way"] 2 b__law_piece
theorem ok__law_piece (F : Std K mg "_law_piece" s__law_piece ["_law_pot_here", "_law_names_here"]) (T : Tx K mg) (c__law_take : Cal P w K mg base 1 "_law_take" ["_law_pot_here", "_law_many"] (spM K m__law_take)) : Cal P w K mg base 2 "_law_piece" ["_law_pot_here", "_law_names_here"] (spM K m__law_piece) := by
  refine calM F sc__law_piece (fun f cdv A outer s H E Z hr => ?_)
  unfold b__law_piece
  exact (scons (spar (i := 2) (j := 3) rfl sc__law_piece.nd rfl rfl (by decide) rfl rfl (dix ix_seq ok_ix (dv 1) (dclM 0 c__law_take hr (by decide) (by rfl) (pv 0) (dac (dcb call_len ok_len (by rfl) T.b_len boot_len (dac (dv 1) danil)) danil))) (dix ix_seq ok_ix (dv 1) (dclM 0 c__law_take hr (by decide) (by rfl) (pv 0) (dac (dcb call_len ok_len (by rfl) T.b_len boot_len (dac (dv 1) danil)) danil))) (by rfl))
  (scons (sset (i := 4) sc__law_piece.nd rfl (by first | exact .inl rfl | exact .inr rfl) (dclM 0 c__law_take hr (by decide) (by rfl) (pv 0) (dac di danil)))
  (scons (sif (dtcmp op_ltA ok_lt (dv 4) di (nomark _))
  (sone (sret (dtup (dac (dix ix_seq ok_ix (dfr (flst (dac ds (dac ds danil)))) (dv 4)) (dac (dv 2) (dac (dv 3) danil))))))
  snil)
  (sone (sret (dtup (dac (dix ix_seq ok_ix (dfr (flst (dac ds (dac ds danil)))) (do_ op_sub ok_sub (dv 4) di)) (dac (dv 2) (dac (dix ix_seq ok_ix (dfr (flst (dac di (dac di (dac di (dac di (dac (do_ op_powW ok_pow di di) (dac (dclM 0 c__law_take hr (by decide) (by rfl) (pv 0) (dac (do_ op_addA ok_add (do_ op_powW ok_pow di di) di) danil)) danil)))))))) (dclM 0 c__law_take hr (by decide) (by rfl) (pv 0) (dac di danil))) danil)))))))))
/-! #### _law_drawn -/
abbrev s__law_drawn : Stmt := topS 66
theorem sc__law_drawn : FnScope ["_law_pot_here", "_law_names_here", "_law_deep", "_law_most", "_law_within", "_law_way", "_law_inner", "_law_used", "_law_parts", "_law_total", "_law_many", "_law_k"] ["_law_pot_here", "_law_names_here", "_law_deep", "_law_most", "_law_within"] (defScope s__law_drawn) := ⟨rfl, rfl, rfl, by decide +kernel, rfl, by decide +kernel, by decide +kernel⟩
def b__law_drawn (self : List PyData → List PyData → Option (PyData × List PyData)) : DS := (sSeq (sSet 5 (dCallM m__law_take 0 (aCons (dC (.int 9)) aNil)))
  (sSeq (sIf (dOrT (dTst (dOp gLt (dVar 2) (dC (.int 2)))) (dTst (dOp gLt (dVar 5) (dC (.int 2)))))
  (sRet (dTup (aCons (dCallM m__law_piece 0 (aCons (dVar 1) aNil)) (aCons (dC (.int 1)) aNil))))
  sNil)
  (sSeq (sIf (dTst (dOp gEq (dVar 5) (dC (.int 2))))
  (sSeq (sAsg (dCallM self 0 (aCons (dVar 1) (aCons (dOp gSub (dVar 2) (dC (.int 1))) (aCons (dVar 3) (aCons (dVar 4) aNil))))) (tgT [(tgN 6), (tgN 7)]))
  (sRet (dTup (aCons (dTup (aCons (dC (.str "not")) (aCons (dVar 6) aNil))) (aCons (dVar 7) aNil)))))
  sNil)
  (sSeq (sIf (dAndT (dTst (dOp gGt (dVar 5) (dC (.int 6)))) (dNotT (dTst (dVar 4))))
  (sSeq (sAsg (dCallM self 0 (aCons (dVar 1) (aCons (dOp gSub (dVar 2) (dC (.int 1))) (aCons (dVar 3) (aCons (dC (.bool true)) aNil))))) (tgT [(tgN 6), (tgN 7)]))
  (sRet (dTup (aCons (dTup (aCons (dOp gIx (dL (fLst (aCons (dC (.str "any")) (aCons (dC (.str "every")) aNil)))) (dOp gSub (dVar 5) (dC (.int 7)))) (aCons (dOp gIx (dVar 1) (dCallM m__law_take 0 (aCons (dB gLen (aCons (dVar 1) aNil)) aNil))) (aCons (dVar 6) aNil)))) (aCons (dVar 7) aNil)))))
  sNil)
  (sSeq (sIf (dTst (dOp gLt (dVar 3) (dC (.int 2))))
  (sRet (dTup (aCons (dCallM m__law_piece 0 (aCons (dVar 1) aNil)) (aCons (dC (.int 1)) aNil))))
  sNil)
  (sSeq (sOwn 8 (fLst aNil))
  (sSeq (sSet 9 (dC (.int 0)))
  (sSeq (sSet 10 (dB gMin (aCons (dVar 3) (aCons (dOp gAdd (dC (.int 2)) (dCallM m__law_take 0 (aCons (dC (.int 5)) aNil))) aNil))))
  (sSeq (sFor (itR1 (dVar 10)) (tgN 11)
  (sSeq (sAsg (dCallM self 0 (aCons (dVar 1) (aCons (dOp gSub (dVar 2) (dC (.int 1))) (aCons (dOp gSub (dOp gSub (dVar 3) (dVar 9)) (dOp gSub (dOp gSub (dVar 10) (dC (.int 1))) (dVar 11))) (aCons (dVar 4) aNil))))) (tgT [(tgN 6), (tgN 7)]))
  (sSeq (sApp 8 (dVar 6))
  (sSet 9 (dOp gAdd (dVar 9) (dVar 7))))))
  (sSeq (sFrz 8) (sRet (dTup (aCons (dTup (aCons (dOp gIx (dL (fLst (aCons (dC (.str "and")) (aCons (dC (.str "or")) aNil)))) (dOp gMod (dVar 5) (dC (.int 2)))) (aCons (dB gTuple (aCons (dVar 8) aNil)) aNil))) (aCons (dVar 9) aNil))))))))))))))
def m__law_drawn : Nat → List PyData → List PyData → Option (PyData × List PyData)
  | 0 => fun _ _ => none
  | n + 1 => fnM ["_law_pot_here", "_law_names_here", "_law_deep", "_law_most", "_law_within", "_law_way", "_law_inner", "_law_used", "_law_parts", "_law_total", "_law_many", "_law_k"] 5 (b__law_drawn (m__law_drawn n))
theorem ok__law_drawn (F : Std K mg "_law_drawn" s__law_drawn ["_law_pot_here", "_law_names_here", "_law_deep", "_law_most", "_law_within"]) (T : Tx K mg) (c__law_take : Cal P w K mg base 1 "_law_take" ["_law_pot_here", "_law_many"] (spM K m__law_take)) (c__law_piece : Cal P w K mg base 2 "_law_piece" ["_law_pot_here", "_law_names_here"] (spM K m__law_piece)) : ∀ n : Nat, Cal P w K mg base (2 + n) "_law_drawn" ["_law_pot_here", "_law_names_here", "_law_deep", "_law_most", "_law_within"] (spM K (m__law_drawn n))
  | 0 => F.noneM _
  | n + 1 => by
    have ih := ok__law_drawn F T c__law_take c__law_piece n
    refine calM F sc__law_drawn (fun f cdv A outer s H E Z hr => ?_)
    unfold b__law_drawn
    exact (scons (sset (i := 5) sc__law_drawn.nd rfl (by first | exact .inl rfl | exact .inr rfl) (dclM 0 c__law_take hr (by first | exact Nat.le_add_right _ _ | (show _ ≤ Nat.add _ _; simp only [Nat.add_eq]; omega)) (by rfl) (pv 0) (dac di danil)))
  (scons (sif (PW.pt (dtor (dtcmp op_ltA ok_lt (dv 2) di (nomark _)) (pw_or1 (dtcmp op_ltA ok_lt (dv 5) di (nomark _)))))
  (sone (sret (dtup (dac (dclM 0 c__law_piece hr (by first | exact Nat.le_add_right _ _ | (show _ ≤ Nat.add _ _; simp only [Nat.add_eq]; omega)) (by rfl) (pv 0) (dac (dv 1) danil)) (dac di danil)))))
  snil)
  (scons (sif (dtcmp (op_eqA hr.units) ok_eq (dv 5) di (nomark _))
  (scons (sasg (dclM 0 ih hr (Nat.le_refl _) (by rfl) (pv 0) (dac (dv 1) (dac (do_ op_sub ok_sub (dv 2) di) (dac (dv 3) (dac (dv 4) danil))))) (pg_tup rfl (pgs_cons (pg_name (i := 6) sc__law_drawn.nd rfl (by first | exact .inl rfl | exact .inr rfl)) (pgs_cons (pg_name (i := 7) sc__law_drawn.nd rfl (by first | exact .inl rfl | exact .inr rfl)) pgs_nil))) (tgt rfl (tgscons tgn (tgscons tgn tgsnil))))
  (sone (sret (dtup (dac (dtup (dac ds (dac (dv 6) danil))) (dac (dv 7) danil))))))
  snil)
  (scons (sif (PW.pt (dtand (dtcmp op_gt ok_gt (dv 5) di (nomark _)) (pw_and1 (dtnot (dt (dv 4))))))
  (scons (sasg (dclM 0 ih hr (Nat.le_refl _) (by rfl) (pv 0) (dac (dv 1) (dac (do_ op_sub ok_sub (dv 2) di) (dac (dv 3) (dac db danil))))) (pg_tup rfl (pgs_cons (pg_name (i := 6) sc__law_drawn.nd rfl (by first | exact .inl rfl | exact .inr rfl)) (pgs_cons (pg_name (i := 7) sc__law_drawn.nd rfl (by first | exact .inl rfl | exact .inr rfl)) pgs_nil))) (tgt rfl (tgscons tgn (tgscons tgn tgsnil))))
  (sone (sret (dtup (dac (dtup (dac (dix ix_seq ok_ix (dfr (flst (dac ds (dac ds danil)))) (do_ op_sub ok_sub (dv 5) di)) (dac (dix ix_seq ok_ix (dv 1) (dclM 0 c__law_take hr (by first | exact Nat.le_add_right _ _ | (show _ ≤ Nat.add _ _; simp only [Nat.add_eq]; omega)) (by rfl) (pv 0) (dac (dcb call_len ok_len (by rfl) T.b_len boot_len (dac (dv 1) danil)) danil))) (dac (dv 6) danil)))) (dac (dv 7) danil))))))
  snil)
  (scons (sif (dtcmp op_ltA ok_lt (dv 3) di (nomark _))
  (sone (sret (dtup (dac (dclM 0 c__law_piece hr (by first | exact Nat.le_add_right _ _ | (show _ ≤ Nat.add _ _; simp only [Nat.add_eq]; omega)) (by rfl) (pv 0) (dac (dv 1) danil)) (dac di danil)))))
  snil)
  (scons (sown (i := 8) sc__law_drawn.nd rfl (by first | exact .inl rfl | exact .inr rfl) (flst danil))
  (scons (sset (i := 9) sc__law_drawn.nd rfl (by first | exact .inl rfl | exact .inr rfl) di)
  (scons (sset (i := 10) sc__law_drawn.nd rfl (by first | exact .inl rfl | exact .inr rfl) (dcb (call_minA rfl) ok_minA (by rfl) T.b_min (by decide +kernel) (dac (dv 3) (dac (do_ op_addA ok_add di (dclM 0 c__law_take hr (by first | exact Nat.le_add_right _ _ | (show _ ≤ Nat.add _ _; simp only [Nat.add_eq]; omega)) (by rfl) (pv 0) (dac di danil))) danil))))
  (scons (sfor PassesOwn.never rfl (pir1 (by rfl) T.b_range (dv 10)) (pg_name (i := 11) sc__law_drawn.nd rfl (by first | exact .inl rfl | exact .inr rfl)) tgn
  (scons (sasg (dclM 0 ih hr (Nat.le_refl _) (by rfl) (pv 0) (dac (dv 1) (dac (do_ op_sub ok_sub (dv 2) di) (dac (do_ op_sub ok_sub (do_ op_sub ok_sub (dv 3) (dv 9)) (do_ op_sub ok_sub (do_ op_sub ok_sub (dv 10) di) (dv 11))) (dac (dv 4) danil))))) (pg_tup rfl (pgs_cons (pg_name (i := 6) sc__law_drawn.nd rfl (by first | exact .inl rfl | exact .inr rfl)) (pgs_cons (pg_name (i := 7) sc__law_drawn.nd rfl (by first | exact .inl rfl | exact .inr rfl)) pgs_nil))) (tgt rfl (tgscons tgn (tgscons tgn tgsnil))))
  (scons (sapp 8 (pv 8) (dv 6))
  (sone (sset (i := 9) sc__law_drawn.nd rfl (by first | exact .inl rfl | exact .inr rfl) (do_ op_addA ok_add (dv 9) (dv 7)))))))
  (sfrz (i := 8) (sone (sret (dtup (dac (dtup (dac (dix ix_seq ok_ix (dfr (flst (dac ds (dac ds danil)))) (do_ op_mod ok_mod (dv 5) di)) (dac (dcty call_tuple_of ok_tuple (by rfl) T.b_tuple (by decide +kernel) (dac (dv 8) danil)) danil))) (dac (dv 9) danil)))))))))))))))
/-! #### _law_condition -/
abbrev s__law_condition : Stmt := topS 67
theorem sc__law_condition : FnScope ["_law_pot_here", "_law_names_here"] ["_law_pot_here", "_law_names_here"] (defScope s__law_condition) := ⟨rfl, rfl, rfl, by decide +kernel, rfl, by decide +kernel, by decide +kernel⟩
def b__law_condition : DS := (sRet (dOp gIx (dCallM (m__law_drawn 7) 0 (aCons (dVar 1) (aCons (dOp gIx (dL (fLst (aCons (dC (.int 6)) (aCons (dC (.int 6)) (aCons (dC (.int 3)) (aCons (dC (.int 1)) aNil)))))) (dCallM m__law_take 0 (aCons (dC (.int 4)) aNil))) (aCons (dOp gIx (dL (fLst (aCons (dC (.int 30)) (aCons (dC (.int 9)) (aCons (dC (.int 4)) aNil))))) (dCallM m__law_take 0 (aCons (dC (.int 3)) aNil))) (aCons (dC (.bool false)) aNil))))) (dC (.int 0))))
def m__law_condition : List PyData → List PyData → Option (PyData × List PyData) := fnM ["_law_pot_here", "_law_names_here"] 2 b__law_condition
theorem ok__law_condition (F : Std K mg "_law_condition" s__law_condition ["_law_pot_here", "_law_names_here"]) (T : Tx K mg) (c__law_drawn : Cal P w K mg base 10 "_law_drawn" ["_law_pot_here", "_law_names_here", "_law_deep", "_law_most", "_law_within"] (spM K (m__law_drawn 7))) (c__law_take : Cal P w K mg base 1 "_law_take" ["_law_pot_here", "_law_many"] (spM K m__law_take)) : Cal P w K mg base 11 "_law_condition" ["_law_pot_here", "_law_names_here"] (spM K m__law_condition) := by
  refine calM F sc__law_condition (fun f cdv A outer s H E Z hr => ?_)
  unfold b__law_condition
  exact (sone (sret (dix ix_seq ok_ix (dclM 0 c__law_drawn hr (by decide) (by rfl) (pv 0) (dac (dv 1) (dac (dix ix_seq ok_ix (dfr (flst (dac di (dac di (dac di (dac di danil)))))) (dclM 0 c__law_take hr (by decide) (by rfl) (pv 0) (dac di danil))) (dac (dix ix_seq ok_ix (dfr (flst (dac di (dac di (dac di danil))))) (dclM 0 c__law_take hr (by decide) (by rfl) (pv 0) (dac di danil))) (dac db danil))))) di)))
/-! #### _law_pieces -/
abbrev s__law_pieces : Stmt := topS 68
theorem sc__law_pieces : FnScope ["_law_thing", "_law_deep", "_law_within", "_law_part"] ["_law_thing", "_law_deep", "_law_within"] (defScope s__law_pieces) := ⟨rfl, rfl, rfl, by decide +kernel, rfl, by decide +kernel, by decide +kernel⟩
def b__law_pieces (self : List PyData → Option PyData) : DS := (sSeq (sIf (dOrT (dTst (dOp gLt (dVar 1) (dC (.int 1)))) (dOrT (dNotT (dTst (dUn (gIsi "tuple") (dVar 0)))) (dOrT (dTst (dOp gLt (dB gLen (aCons (dVar 0) aNil)) (dC (.int 2)))) (dNotT (dTst (dUn (gIsi "str") (dOp gIx (dVar 0) (dC (.int 0)))))))))
  (sRet (dC (.int 99)))
  sNil)
  (sSeq (sIf (dAndT (dTst (dOp (gIn false) (dOp gIx (dVar 0) (dC (.int 0))) (dTup (aCons (dC (.str "is")) (aCons (dC (.str "has")) aNil))))) (dTst (dOp gEq (dB gLen (aCons (dVar 0) aNil)) (dC (.int 3)))))
  (sRet (dIf (dAndT (dTst (dCall m__law_is_name (aCons (dOp gIx (dVar 0) (dC (.int 1))) aNil))) (dTst (dCall m__law_is_name (aCons (dOp gIx (dVar 0) (dC (.int 2))) aNil)))) (dC (.int 1)) (dC (.int 99))))
  sNil)
  (sSeq (sIf (dAndT (dTst (dOp (gIn false) (dOp gIx (dVar 0) (dC (.int 0))) (dTup (aCons (dC (.str "from")) (aCons (dC (.str "to")) aNil))))) (dTst (dOp gEq (dB gLen (aCons (dVar 0) aNil)) (dC (.int 3)))))
  (sRet (dIf (dAndT (dTst (dCall m__law_is_name (aCons (dOp gIx (dVar 0) (dC (.int 1))) aNil))) (dTst (dCall m__law_is_within (aCons (dOp gIx (dVar 0) (dC (.int 2))) (aCons (dC (.int 0)) (aCons (dOp gPow (dC (.int 10)) (dC (.int 6))) aNil)))))) (dC (.int 1)) (dC (.int 99))))
  sNil)
  (sSeq (sIf (dAndT (dTst (dOp (gIn false) (dOp gIx (dVar 0) (dC (.int 0))) (dTup (aCons (dC (.str "any")) (aCons (dC (.str "every")) aNil))))) (dAndT (dTst (dOp gEq (dB gLen (aCons (dVar 0) aNil)) (dC (.int 3)))) (dAndT (dTst (dCall m__law_is_name (aCons (dOp gIx (dVar 0) (dC (.int 1))) aNil))) (dNotT (dTst (dVar 2))))))
  (sRet (dCall self (aCons (dOp gIx (dVar 0) (dC (.int 2))) (aCons (dOp gSub (dVar 1) (dC (.int 1))) (aCons (dC (.bool true)) aNil)))))
  sNil)
  (sSeq (sIf (dOrT (dTst (dOp gNe (dB gLen (aCons (dVar 0) aNil)) (dC (.int 2)))) (dTst (dOp (gIn true) (dOp gIx (dVar 0) (dC (.int 0))) (dTup (aCons (dC (.str "not")) (aCons (dC (.str "and")) (aCons (dC (.str "or")) aNil)))))))
  (sRet (dC (.int 99)))
  sNil)
  (sSeq (sIf (dTst (dOp gEq (dOp gIx (dVar 0) (dC (.int 0))) (dC (.str "not"))))
  (sRet (dCall self (aCons (dOp gIx (dVar 0) (dC (.int 1))) (aCons (dOp gSub (dVar 1) (dC (.int 1))) (aCons (dVar 2) aNil)))))
  sNil)
  (sSeq (sIf (dOrT (dNotT (dTst (dUn (gIsi "tuple") (dOp gIx (dVar 0) (dC (.int 1)))))) (dNotT (dTst (dChain gLe gLe (dC (.int 2)) (dB gLen (aCons (dOp gIx (dVar 0) (dC (.int 1))) aNil)) (dC (.int 6))))))
  (sRet (dC (.int 99)))
  sNil)
  (sRet (dB gMin (aCons (dC (.int 99)) (aCons (dB gSum (aCons (dL (fLc (itA (dOp gIx (dVar 0) (dC (.int 1)))) 3 tYesD (dCall self (aCons (dVar 3) (aCons (dOp gSub (dVar 1) (dC (.int 1))) (aCons (dVar 2) aNil)))))) aNil)) aNil)))))))))))
def m__law_pieces : Nat → List PyData → Option PyData
  | 0 => fun _ => none
  | n + 1 => fnP ["_law_thing", "_law_deep", "_law_within", "_law_part"] 3 (b__law_pieces (m__law_pieces n))
theorem ok__law_pieces (F : Std K mg "_law_pieces" s__law_pieces ["_law_thing", "_law_deep", "_law_within"]) (T : Tx K mg) (c__law_is_name : Cal P w K mg base 2 "_law_is_name" ["_law_thing"] (spP K m__law_is_name)) (c__law_is_within : Cal P w K mg base 1 "_law_is_within" ["_law_thing", "_law_low", "_law_high"] (spP K m__law_is_within)) : ∀ n : Nat, Cal P w K mg base (2 + n) "_law_pieces" ["_law_thing", "_law_deep", "_law_within"] (spP K (m__law_pieces n))
  | 0 => F.noneP _
  | n + 1 => by
    have ih := ok__law_pieces F T c__law_is_name c__law_is_within n
    refine calP F sc__law_pieces (fun f cdv A outer s H E Z hr => ?_)
    unfold b__law_pieces
    exact (scons (sif (PW.pt (dtor (dtcmp op_ltA ok_lt (dv 1) di (nomark _)) (dtor (dtnot (dt (disi isi_tuple (by rfl) T.b_isinstance (by decide +kernel) (by rfl) T.b_tuple (by decide +kernel) (dv 0)))) (dtor (dtcmp op_ltA ok_lt (dcb call_len ok_len (by rfl) T.b_len boot_len (dac (dv 0) danil)) di (nomark _)) (pw_or1 (dtnot (dt (disi isi_str (by rfl) T.b_isinstance (by decide +kernel) (by rfl) T.b_str (by decide +kernel) (dix ix_seq ok_ix (dv 0) di)))))))))
  (sone (sret di))
  snil)
  (scons (sif (PW.pt (dtand (dtcmp (op_inA (hu_of hr)) ok_in (dix ix_seq ok_ix (dv 0) di) (dtup (dac ds (dac ds danil))) (by first | rfl | with_unfolding_all rfl)) (pw_and1 (dtcmp (op_eqA hr.units) ok_eq (dcb call_len ok_len (by rfl) T.b_len boot_len (dac (dv 0) danil)) di (nomark _)))))
  (sone (sret (dif_ (PW.pt (dtand (dt (dcl c__law_is_name hr (by first | exact Nat.le_add_right _ _ | (show _ ≤ Nat.add _ _; simp only [Nat.add_eq]; omega)) (by rfl) (dac (dix ix_seq ok_ix (dv 0) di) danil))) (pw_and1 (dt (dcl c__law_is_name hr (by first | exact Nat.le_add_right _ _ | (show _ ≤ Nat.add _ _; simp only [Nat.add_eq]; omega)) (by rfl) (dac (dix ix_seq ok_ix (dv 0) di) danil)))))) di di)))
  snil)
  (scons (sif (PW.pt (dtand (dtcmp (op_inA (hu_of hr)) ok_in (dix ix_seq ok_ix (dv 0) di) (dtup (dac ds (dac ds danil))) (by first | rfl | with_unfolding_all rfl)) (pw_and1 (dtcmp (op_eqA hr.units) ok_eq (dcb call_len ok_len (by rfl) T.b_len boot_len (dac (dv 0) danil)) di (nomark _)))))
  (sone (sret (dif_ (PW.pt (dtand (dt (dcl c__law_is_name hr (by first | exact Nat.le_add_right _ _ | (show _ ≤ Nat.add _ _; simp only [Nat.add_eq]; omega)) (by rfl) (dac (dix ix_seq ok_ix (dv 0) di) danil))) (pw_and1 (dt (dcl c__law_is_within hr (by first | exact Nat.le_add_right _ _ | (show _ ≤ Nat.add _ _; simp only [Nat.add_eq]; omega)) (by rfl) (dac (dix ix_seq ok_ix (dv 0) di) (dac di (dac (do_ op_powW ok_pow di di) danil)))))))) di di)))
  snil)
  (scons (sif (PW.pt (dtand (dtcmp (op_inA (hu_of hr)) ok_in (dix ix_seq ok_ix (dv 0) di) (dtup (dac ds (dac ds danil))) (by first | rfl | with_unfolding_all rfl)) (dtand (dtcmp (op_eqA hr.units) ok_eq (dcb call_len ok_len (by rfl) T.b_len boot_len (dac (dv 0) danil)) di (nomark _)) (dtand (dt (dcl c__law_is_name hr (by first | exact Nat.le_add_right _ _ | (show _ ≤ Nat.add _ _; simp only [Nat.add_eq]; omega)) (by rfl) (dac (dix ix_seq ok_ix (dv 0) di) danil))) (pw_and1 (dtnot (dt (dv 2))))))))
  (sone (sret (dcl ih hr (Nat.le_refl _) (by rfl) (dac (dix ix_seq ok_ix (dv 0) di) (dac (do_ op_sub ok_sub (dv 1) di) (dac db danil))))))
  snil)
  (scons (sif (PW.pt (dtor (dtcmp (op_neA hr.units) ok_ne (dcb call_len ok_len (by rfl) T.b_len boot_len (dac (dv 0) danil)) di (nomark _)) (pw_or1 (dtcmp (op_notInA (hu_of hr)) ok_in (dix ix_seq ok_ix (dv 0) di) (dtup (dac ds (dac ds (dac ds danil)))) (by first | rfl | with_unfolding_all rfl)))))
  (sone (sret di))
  snil)
  (scons (sif (dtcmp (op_eqA hr.units) ok_eq (dix ix_seq ok_ix (dv 0) di) ds (nomark _))
  (sone (sret (dcl ih hr (Nat.le_refl _) (by rfl) (dac (dix ix_seq ok_ix (dv 0) di) (dac (do_ op_sub ok_sub (dv 1) di) (dac (dv 2) danil))))))
  snil)
  (scons (sif (PW.pt (dtor (dtnot (dt (disi isi_tuple (by rfl) T.b_isinstance (by decide +kernel) (by rfl) T.b_tuple (by decide +kernel) (dix ix_seq ok_ix (dv 0) di)))) (pw_or1 (dtnot (dtchain op_leA ok_le op_leA ok_le di (dcb call_len ok_len (by rfl) T.b_len boot_len (dac (dix ix_seq ok_ix (dv 0) di) danil)) di)))))
  (sone (sret di))
  snil)
  (sone (sret (dcb (call_minA rfl) ok_minA (by rfl) T.b_min (by decide +kernel) (dac di (dac (dcb (cr_sum rfl) ok_sum (by rfl) T.b_sum (by decide +kernel) (dac (dfr (flc rfl sc__law_pieces.nd (pia (dix ix_seq ok_ix (dv 0) di)) (blkOk_by (own := [("_law_part", 3)]) (N := ["_law_thing", "_law_deep", "_law_within", "_law_part"]) (sc := defScope s__law_pieces) (by decide +kernel)) (fun _ _ _ _ _ => pg_name (i := 3) sc__law_pieces.nd rfl (Or.inl rfl)) (fun _ _ _ _ _ _ => tynil) (fun _ _ _ _ _ _ => (dcl ih hr (Nat.le_refl _) (by rfl) (dac (dv 3) (dac (do_ op_sub ok_sub (dv 1) di) (dac (dv 2) danil))))))) danil)) danil))))))))))))
/-! #### _law_is_condition -/
abbrev s__law_is_condition : Stmt := topS 69
theorem sc__law_is_condition : FnScope ["_law_thing"] ["_law_thing"] (defScope s__law_is_condition) := ⟨rfl, rfl, rfl, by decide +kernel, rfl, by decide +kernel, by decide +kernel⟩
def b__law_is_condition : DS := (sRet (dOp gLe (dCall (m__law_pieces 8) (aCons (dVar 0) (aCons (dC (.int 6)) (aCons (dC (.bool false)) aNil)))) (dC (.int 30))))
def m__law_is_condition : List PyData → Option PyData := fnP ["_law_thing"] 1 b__law_is_condition
theorem ok__law_is_condition (F : Std K mg "_law_is_condition" s__law_is_condition ["_law_thing"]) (T : Tx K mg) (c__law_pieces : Cal P w K mg base 11 "_law_pieces" ["_law_thing", "_law_deep", "_law_within"] (spP K (m__law_pieces 8))) : Cal P w K mg base 12 "_law_is_condition" ["_law_thing"] (spP K m__law_is_condition) := by
  refine calP F sc__law_is_condition (fun f cdv A outer s H E Z hr => ?_)
  unfold b__law_is_condition
  exact (sone (sret (dcmp op_leA ok_le (dcl c__law_pieces hr (by decide) (by rfl) (dac (dv 0) (dac di (dac db danil)))) di (nomark _))))
/-! #### _law_holds -/
abbrev s__law_holds : Stmt := topS 70
theorem sc__law_holds : FnScope ["_law_condition_here", "_law_taken_here", "_law_someone", "_law_house", "_law_word_here", "_law_found", "_law_part", "_law_many", "_law_k", "_law_key", "_law_value", "_law_sought"] ["_law_condition_here", "_law_taken_here", "_law_someone", "_law_house"] (defScope s__law_holds) := ⟨rfl, rfl, rfl, by decide +kernel, rfl, by decide +kernel, by decide +kernel⟩
def b__law_holds (self : List PyData → Option PyData) : DS := (sSeq (sSet 4 (dOp gIx (dVar 0) (dC (.int 0))))
  (sSeq (sIf (dTst (dOp gEq (dVar 4) (dC (.str "not"))))
  (sRet (dNot (dCall self (aCons (dOp gIx (dVar 0) (dC (.int 1))) (aCons (dVar 1) (aCons (dVar 2) (aCons (dVar 3) aNil)))))))
  sNil)
  (sSeq (sIf (dTst (dOp (gIn false) (dVar 4) (dTup (aCons (dC (.str "and")) (aCons (dC (.str "or")) aNil)))))
  (sSeq (sSet 5 (dL (fLc (itA (dOp gIx (dVar 0) (dC (.int 1)))) 6 tYesD (dCall self (aCons (dVar 6) (aCons (dVar 1) (aCons (dVar 2) (aCons (dVar 3) aNil))))))))
  (sRet (dIf (dTst (dOp gEq (dVar 4) (dC (.str "and")))) (dOp (gIn true) (dC (.bool false)) (dVar 5)) (dOp (gIn false) (dC (.bool true)) (dVar 5)))))
  sNil)
  (sSeq (sIf (dTst (dOp (gIn false) (dVar 4) (dTup (aCons (dC (.str "any")) (aCons (dC (.str "every")) aNil)))))
  (sSeq (sSet 7 (dIf (dTst (dOp (gInD false) (dOp gIx (dVar 0) (dC (.int 1))) (dVar 3))) (dOp gGetD (dVar 3) (dOp gIx (dVar 0) (dC (.int 1)))) (dC (.int 0))))
  (sSeq (sSet 5 (dL (fLc (itR2 (dC (.int 1)) (dOp gAdd (dVar 7) (dC (.int 1)))) 8 tYesD (dCall self (aCons (dOp gIx (dVar 0) (dC (.int 2))) (aCons (dVar 1) (aCons (dVar 8) (aCons (dVar 3) aNil))))))))
  (sRet (dIf (dTst (dOp gEq (dVar 4) (dC (.str "any")))) (dOp (gIn false) (dC (.bool true)) (dVar 5)) (dOp (gIn true) (dC (.bool false)) (dVar 5))))))
  sNil)
  (sSeq (sSet 9 (dIf (dTst (dOp (gInD false) (dTup (aCons (dOp gIx (dVar 0) (dC (.int 1))) (aCons (dVar 2) aNil))) (dVar 1))) (dTup (aCons (dOp gIx (dVar 0) (dC (.int 1))) (aCons (dVar 2) aNil))) (dTup (aCons (dOp gIx (dVar 0) (dC (.int 1))) (aCons (dC (.int 0)) aNil)))))
  (sSeq (sIf (dTst (dOp (gInD true) (dVar 9) (dVar 1)))
  (sRet (dC (.bool false)))
  sNil)
  (sSeq (sPar 10 11 (dOp gGetD (dVar 1) (dVar 9)) (dOp gIx (dVar 0) (dC (.int 2))))
  (sSeq (sIf (dTst (dOp gEq (dVar 4) (dC (.str "is"))))
  (sRet (dAnd (dUn (gIsi "str") (dVar 10)) (dOp gEq (dVar 10) (dVar 11))))
  sNil)
  (sSeq (sIf (dTst (dOp gEq (dVar 4) (dC (.str "has"))))
  (sRet (dAnd (dUn (gIsi "tuple") (dVar 10)) (dOp (gIn false) (dVar 11) (dVar 10))))
  sNil)
  (sSeq (sIf (dNotT (dTst (dUn (gIsi "int") (dVar 10))))
  (sRet (dC (.bool false)))
  sNil)
  (sRet (dIf (dTst (dOp gEq (dVar 4) (dC (.str "from")))) (dOp gGe (dVar 10) (dVar 11)) (dOp gLe (dVar 10) (dVar 11))))))))))))))
def m__law_holds : Nat → List PyData → Option PyData
  | 0 => fun _ => none
  | n + 1 => fnP ["_law_condition_here", "_law_taken_here", "_law_someone", "_law_house", "_law_word_here", "_law_found", "_law_part", "_law_many", "_law_k", "_law_key", "_law_value", "_law_sought"] 4 (b__law_holds (m__law_holds n))
theorem ok__law_holds (F : Std K mg "_law_holds" s__law_holds ["_law_condition_here", "_law_taken_here", "_law_someone", "_law_house"]) (T : Tx K mg)  : ∀ n : Nat, Cal P w K mg base (0 + n) "_law_holds" ["_law_condition_here", "_law_taken_here", "_law_someone", "_law_house"] (spP K (m__law_holds n))
  | 0 => F.noneP _
  | n + 1 => by
    have ih := ok__law_holds F T  n
    refine calP F sc__law_holds (fun f cdv A outer s H E Z hr => ?_)
    unfold b__law_holds
    exact (scons (sset (i := 4) sc__law_holds.nd rfl (by first | exact .inl rfl | exact .inr rfl) (dix ix_seq ok_ix (dv 0) di))
  (scons (sif (dtcmp (op_eqA hr.units) ok_eq (dv 4) ds (nomark _))
  (sone (sret (dnot (dcl ih hr (Nat.le_refl _) (by rfl) (dac (dix ix_seq ok_ix (dv 0) di) (dac (dv 1) (dac (dv 2) (dac (dv 3) danil))))))))
  snil)
  (scons (sif (dtcmp (op_inA (hu_of hr)) ok_in (dv 4) (dtup (dac ds (dac ds danil))) (by first | rfl | with_unfolding_all rfl))
  (scons (ssetLc (i := 5) rfl sc__law_holds.nd rfl rfl (sw_true rfl rfl rfl (by decide +kernel)) (pia (dix ix_seq ok_ix (dv 0) di)) (blkOk_by (own := [("_law_part", 6)]) (N := ["_law_condition_here", "_law_taken_here", "_law_someone", "_law_house", "_law_word_here", "_law_found", "_law_part", "_law_many", "_law_k", "_law_key", "_law_value", "_law_sought"]) (sc := defScope s__law_holds) (by decide +kernel)) (fun _ _ _ _ _ => pg_name (i := 6) sc__law_holds.nd rfl (Or.inl rfl)) (fun _ _ _ _ _ _ => tynil) (fun _ _ _ _ _ _ => (dcl ih hr (Nat.le_refl _) (by rfl) (dac (dv 6) (dac (dv 1) (dac (dv 2) (dac (dv 3) danil)))))))
  (sone (sret (dif_ (dtcmp (op_eqA hr.units) ok_eq (dv 4) ds (nomark _)) (dcmp (op_notInA (hu_of hr)) ok_in db (dv 5) (by first | rfl | with_unfolding_all rfl)) (dcmp (op_inA (hu_of hr)) ok_in db (dv 5) (by first | rfl | with_unfolding_all rfl))))))
  snil)
  (scons (sif (dtcmp (op_inA (hu_of hr)) ok_in (dv 4) (dtup (dac ds (dac ds danil))) (by first | rfl | with_unfolding_all rfl))
  (scons (sset (i := 7) sc__law_holds.nd rfl (by first | exact .inl rfl | exact .inr rfl) (dif_ (dtind (hu_of hr) (dix ix_seq ok_ix (dv 0) di) (dv 3)) (dgetd (hu_of hr) (dv 3) (dix ix_seq ok_ix (dv 0) di)) di))
  (scons (ssetLc (i := 5) rfl sc__law_holds.nd rfl rfl (sw_true rfl rfl rfl (by decide +kernel)) (pir2 (by rfl) T.b_range di (do_ op_addA ok_add (dv 7) di)) (blkOk_by (own := [("_law_k", 8)]) (N := ["_law_condition_here", "_law_taken_here", "_law_someone", "_law_house", "_law_word_here", "_law_found", "_law_part", "_law_many", "_law_k", "_law_key", "_law_value", "_law_sought"]) (sc := defScope s__law_holds) (by decide +kernel)) (fun _ _ _ _ _ => pg_name (i := 8) sc__law_holds.nd rfl (Or.inl rfl)) (fun _ _ _ _ _ _ => tynil) (fun _ _ _ _ _ _ => (dcl ih hr (Nat.le_refl _) (by rfl) (dac (dix ix_seq ok_ix (dv 0) di) (dac (dv 1) (dac (dv 8) (dac (dv 3) danil)))))))
  (sone (sret (dif_ (dtcmp (op_eqA hr.units) ok_eq (dv 4) ds (nomark _)) (dcmp (op_inA (hu_of hr)) ok_in db (dv 5) (by first | rfl | with_unfolding_all rfl)) (dcmp (op_notInA (hu_of hr)) ok_in db (dv 5) (by first | rfl | with_unfolding_all rfl)))))))
  snil)
  (scons (sset (i := 9) sc__law_holds.nd rfl (by first | exact .inl rfl | exact .inr rfl) (dif_ (dtind (hu_of hr) (dtup (dac (dix ix_seq ok_ix (dv 0) di) (dac (dv 2) danil))) (dv 1)) (dtup (dac (dix ix_seq ok_ix (dv 0) di) (dac (dv 2) danil))) (dtup (dac (dix ix_seq ok_ix (dv 0) di) (dac di danil)))))
  (scons (sif (dtnotind (hu_of hr) (dv 9) (dv 1))
  (sone (sret db))
  snil)
  (scons (spar (i := 10) (j := 11) rfl sc__law_holds.nd rfl rfl (by decide) rfl rfl (dgetd (hu_of hr) (dv 1) (dv 9)) (dix ix_seq ok_ix (dv 0) di) (by rfl))
  (scons (sif (dtcmp (op_eqA hr.units) ok_eq (dv 4) ds (nomark _))
  (sone (sret (dand (disi isi_str (by rfl) T.b_isinstance (by decide +kernel) (by rfl) T.b_str (by decide +kernel) (dv 10)) (pe_one (dcmp (op_eqA hr.units) ok_eq (dv 10) (dv 11) (nomark _))))))
  snil)
  (scons (sif (dtcmp (op_eqA hr.units) ok_eq (dv 4) ds (nomark _))
  (sone (sret (dand (disi isi_tuple (by rfl) T.b_isinstance (by decide +kernel) (by rfl) T.b_tuple (by decide +kernel) (dv 10)) (pe_one (dcmp (op_inA (hu_of hr)) ok_in (dv 11) (dv 10) (by first | rfl | with_unfolding_all rfl))))))
  snil)
  (scons (sif (dtnot (dt (disi isi_int (by rfl) T.b_isinstance (by decide +kernel) (by rfl) T.b_int (by decide +kernel) (dv 10))))
  (sone (sret db))
  snil)
  (sone (sret (dif_ (dtcmp (op_eqA hr.units) ok_eq (dv 4) ds (nomark _)) (dcmp op_ge ok_ge (dv 10) (dv 11) (nomark _)) (dcmp op_leA ok_le (dv 10) (dv 11) (nomark _)))))))))))))))
/-! #### _law_taken -/
abbrev s__law_taken : Stmt := topS 71
theorem sc__law_taken : FnScope ["_law_pot_here", "_law_names_here", "_law_found", "_law_name_here", "_law_someone", "_law_way", "_law_some", "_law_option", "_law_number"] ["_law_pot_here", "_law_names_here"] (defScope s__law_taken) := ⟨rfl, rfl, rfl, by decide +kernel, rfl, by decide +kernel, by decide +kernel⟩
def b__law_taken : DS := (sSeq (sNewD 2 (.kT []))
  (sSeq (sFor (itA (dOp gAdd (dVar 1) (dSl (dVar 1) oN (oS (dC (.int 2)))))) (tgN 3)
  (sSeq (sSet 4 (dOp gIx (dL (fLst (aCons (dC (.int 0)) (aCons (dC (.int 0)) (aCons (dOp gAdd (dC (.int 1)) (dCallM m__law_take 0 (aCons (dC (.int 4)) aNil))) aNil))))) (dCallM m__law_take 0 (aCons (dC (.int 3)) aNil))))
  (sSeq (sSet 5 (dCallM m__law_take 0 (aCons (dC (.int 4)) aNil)))
  (sSeq (sSet 6 (dB gTuple (aCons (dL (fLc (itA (dVar 1)) 7 (dTst (dOp gEq (dCallM m__law_take 0 (aCons (dC (.int 2)) aNil)) (dC (.int 0)))) (dVar 7))) aNil)))
  (sSeq (sSet 8 (dOp gIx (dL (fLst (aCons (dC (.int 0)) (aCons (dC (.int 1)) (aCons (dC (.int 2)) (aCons (dC (.int 3)) (aCons (dOp gPow (dC (.int 10)) (dC (.int 6))) (aCons (dCallM m__law_take 0 (aCons (dOp gAdd (dOp gPow (dC (.int 10)) (dC (.int 6))) (dC (.int 1))) aNil)) aNil)))))))) (dCallM m__law_take 0 (aCons (dC (.int 6)) aNil))))
  (sIf (dTst (dOp gGt (dVar 5) (dC (.int 0))))
  (sPutD 2 (dOp gIx (dL (fLst (aCons (dOp gIx (dVar 1) (dCallM m__law_take 0 (aCons (dB gLen (aCons (dVar 1) aNil)) aNil))) (aCons (dVar 6) (aCons (dVar 8) aNil))))) (dOp gSub (dVar 5) (dC (.int 1)))) (dTup (aCons (dVar 3) (aCons (dVar 4) aNil))))
  sNil))))))
  (sSeq (sFrzD 2) (sRet (dVar 2)))))
def m__law_taken : List PyData → List PyData → Option (PyData × List PyData) := fnM ["_law_pot_here", "_law_names_here", "_law_found", "_law_name_here", "_law_someone", "_law_way", "_law_some", "_law_option", "_law_number"] 2 b__law_taken
theorem ok__law_taken (F : Std K mg "_law_taken" s__law_taken ["_law_pot_here", "_law_names_here"]) (T : Tx K mg) (c__law_take : Cal P w K mg base 1 "_law_take" ["_law_pot_here", "_law_many"] (spM K m__law_take)) : Cal P w K mg base 2 "_law_taken" ["_law_pot_here", "_law_names_here"] (spM K m__law_taken) := by
  refine calM F sc__law_taken (fun f cdv A outer s H E Z hr => ?_)
  unfold b__law_taken
  exact (scons (snewT (i := 2) sc__law_taken.nd rfl (by first | exact .inl rfl | exact .inr rfl))
  (scons (sfor PassesOwn.never rfl (pia (do_ op_addA ok_add (dv 1) (dsl (dv 1) don (dos di)))) (pg_name (i := 3) sc__law_taken.nd rfl (by first | exact .inl rfl | exact .inr rfl)) tgn
  (scons (sset (i := 4) sc__law_taken.nd rfl (by first | exact .inl rfl | exact .inr rfl) (dix ix_seq ok_ix (dfr (flst (dac di (dac di (dac (do_ op_addA ok_add di (dclM 0 c__law_take hr (by decide) (by rfl) (pv 0) (dac di danil))) danil))))) (dclM 0 c__law_take hr (by decide) (by rfl) (pv 0) (dac di danil))))
  (scons (sset (i := 5) sc__law_taken.nd rfl (by first | exact .inl rfl | exact .inr rfl) (dclM 0 c__law_take hr (by decide) (by rfl) (pv 0) (dac di danil)))
  (scons (sset (i := 6) sc__law_taken.nd rfl (by first | exact .inl rfl | exact .inr rfl) (dcty call_tuple_of ok_tuple (by rfl) T.b_tuple (by decide +kernel) (dac (dfr (flc rfl sc__law_taken.nd (pia (dv 1)) (blkOk_by (own := [("_law_option", 7)]) (N := ["_law_pot_here", "_law_names_here", "_law_found", "_law_name_here", "_law_someone", "_law_way", "_law_some", "_law_option", "_law_number"]) (sc := defScope s__law_taken) (by decide +kernel)) (fun _ _ _ _ _ => pg_name (i := 7) sc__law_taken.nd rfl (Or.inl rfl)) (fun _ _ _ _ _ _ => (pts_one (dtcmp (op_eqA hr.units) ok_eq (dclM 0 c__law_take hr (by decide) (by rfl) (pv 0) (dac di danil)) di (nomark _)))) (fun _ _ _ _ _ _ => (dv 7)))) danil)))
  (scons (sset (i := 8) sc__law_taken.nd rfl (by first | exact .inl rfl | exact .inr rfl) (dix ix_seq ok_ix (dfr (flst (dac di (dac di (dac di (dac di (dac (do_ op_powW ok_pow di di) (dac (dclM 0 c__law_take hr (by decide) (by rfl) (pv 0) (dac (do_ op_addA ok_add (do_ op_powW ok_pow di di) di) danil)) danil)))))))) (dclM 0 c__law_take hr (by decide) (by rfl) (pv 0) (dac di danil))))
  (sone (sif (dtcmp op_gt ok_gt (dv 5) di (nomark _))
  (sone (sputD 2 (hu_of hr) (dix ix_seq ok_ix (dfr (flst (dac (dix ix_seq ok_ix (dv 1) (dclM 0 c__law_take hr (by decide) (by rfl) (pv 0) (dac (dcb call_len ok_len (by rfl) T.b_len boot_len (dac (dv 1) danil)) danil))) (dac (dv 6) (dac (dv 8) danil))))) (do_ op_sub ok_sub (dv 5) di)) (pv 2) (dtup (dac (dv 3) (dac (dv 4) danil)))))
  snil)))))))
  (sfrzD (i := 2) (sone (sret (dv 2))))))
/-! #### _law_folk -/
abbrev s__law_folk : Stmt := topS 72
theorem sc__law_folk : FnScope ["_law_pot_here", "_law_names_here", "_law_name_here"] ["_law_pot_here", "_law_names_here"] (defScope s__law_folk) := ⟨rfl, rfl, rfl, by decide +kernel, rfl, by decide +kernel, by decide +kernel⟩
def b__law_folk : DS := (sRet (dB gDictP (aCons (dL (fLc (itA (dVar 1)) 2 (dTst (dOp gGt (dCallM m__law_take 0 (aCons (dC (.int 3)) aNil)) (dC (.int 0)))) (dTup (aCons (dVar 2) (aCons (dCallM m__law_take 0 (aCons (dC (.int 5)) aNil)) aNil))))) aNil)))
def m__law_folk : List PyData → List PyData → Option (PyData × List PyData) := fnM ["_law_pot_here", "_law_names_here", "_law_name_here"] 2 b__law_folk
theorem ok__law_folk (F : Std K mg "_law_folk" s__law_folk ["_law_pot_here", "_law_names_here"]) (T : Tx K mg) (c__law_take : Cal P w K mg base 1 "_law_take" ["_law_pot_here", "_law_many"] (spM K m__law_take)) : Cal P w K mg base 2 "_law_folk" ["_law_pot_here", "_law_names_here"] (spM K m__law_folk) := by
  refine calM F sc__law_folk (fun f cdv A outer s H E Z hr => ?_)
  unfold b__law_folk
  exact (sone (sret (dcty (call_dictP rfl) ok_dictP (by rfl) T.b_dict (by decide +kernel) (dac (dfr (flc rfl sc__law_folk.nd (pia (dv 1)) (blkOk_by (own := [("_law_name_here", 2)]) (N := ["_law_pot_here", "_law_names_here", "_law_name_here"]) (sc := defScope s__law_folk) (by decide +kernel)) (fun _ _ _ _ _ => pg_name (i := 2) sc__law_folk.nd rfl (Or.inl rfl)) (fun _ _ _ _ _ _ => (pts_one (dtcmp op_gt ok_gt (dclM 0 c__law_take hr (by decide) (by rfl) (pv 0) (dac di danil)) di (nomark _)))) (fun _ _ _ _ _ _ => (dtup (dac (dv 2) (dac (dclM 0 c__law_take hr (by decide) (by rfl) (pv 0) (dac di danil)) danil)))))) danil))))
/-! #### _law_told -/
abbrev s__law_told : Stmt := topS 73
theorem sc__law_told : FnScope ["_law_way", "_law_condition_here", "_law_taken_here", "_law_someone", "_law_house"] ["_law_way", "_law_condition_here", "_law_taken_here", "_law_someone", "_law_house"] (defScope s__law_told) := ⟨rfl, rfl, rfl, by decide +kernel, rfl, by decide +kernel, by decide +kernel⟩
def b__law_told : DS := (sSeq (sIf (dTst (dOp gEq (dVar 0) (dC (.int 0))))
  (sRet (dCall (okOf m_holds) (aCons (dVar 1) (aCons (dVar 2) (aCons (dVar 3) (aCons (dVar 4) aNil))))))
  sNil)
  (sSeq (sIf (dTst (dOp gEq (dVar 0) (dC (.int 1))))
  (sRet (dCallK (okOf m_holds) 2 2 (fun us zs => pick [(0, 0), (0, 1), (2, 1), (2, 0)] us [.int 0, .none] zs) (aCons (dVar 1) (aCons (dVar 2) aNil)) (aCons (dVar 4) (aCons (dVar 3) aNil))))
  sNil)
  (sSeq (sIf (dTst (dOp gEq (dVar 0) (dC (.int 2))))
  (sRet (dCallK (okOf m_holds) 2 1 (fun us zs => pick [(0, 0), (0, 1), (2, 0), (1, 1)] us [.int 0, .none] zs) (aCons (dVar 1) (aCons (dVar 2) aNil)) (aCons (dVar 3) aNil)))
  sNil)
  (sSeq (sIf (dTst (dOp gEq (dVar 0) (dC (.int 3))))
  (sRet (dCallK (okOf m_holds) 2 1 (fun us zs => pick [(0, 0), (0, 1), (1, 0), (2, 0)] us [.int 0, .none] zs) (aCons (dVar 1) (aCons (dVar 2) aNil)) (aCons (dVar 4) aNil)))
  sNil)
  (sRet (dCall (withD (okOf m_holds) [.int 0, .none]) (aCons (dVar 1) (aCons (dVar 2) aNil))))))))
def m__law_told : List PyData → Option PyData := fnP ["_law_way", "_law_condition_here", "_law_taken_here", "_law_someone", "_law_house"] 5 b__law_told
theorem ok__law_told (F : Std K mg "_law_told" s__law_told ["_law_way", "_law_condition_here", "_law_taken_here", "_law_someone", "_law_house"]) (T : Tx K mg) (c_holds : CalD P w K mg base 23 "holds" s_holds ["condition", "taken", "person", "folk"] (spX K mg m_holds) dv_holds) : Cal P w K mg base 24 "_law_told" ["_law_way", "_law_condition_here", "_law_taken_here", "_law_someone", "_law_house"] (spP K m__law_told) := by
  refine calP F sc__law_told (fun f cdv A outer s H E Z hr => ?_)
  unfold b__law_told
  exact (scons (sif (dtcmp (op_eqA hr.units) ok_eq (dv 0) di (nomark _))
  (sone (sret (dclX (sh_holds_4 c_holds) hr (by decide) (by rfl) (dac (dv 1) (dac (dv 2) (dac (dv 3) (dac (dv 4) danil)))))))
  snil)
  (scons (sif (dtcmp (op_eqA hr.units) ok_eq (dv 0) di (nomark _))
  (sone (sret (dclK (dd := [.int 0, .none]) (pc := [(0, 0), (0, 1), (2, 1), (2, 0)]) (sh_holds_2_folk_person c_holds) (fun _ _ => (.cons (.int _) (.cons .non .nil))) hr (by decide) (by rfl) (dac (dv 1) (dac (dv 2) danil)) (dkcons (dv 4) (dkcons (dv 3) dknil)))))
  snil)
  (scons (sif (dtcmp (op_eqA hr.units) ok_eq (dv 0) di (nomark _))
  (sone (sret (dclK (dd := [.int 0, .none]) (pc := [(0, 0), (0, 1), (2, 0), (1, 1)]) (sh_holds_2_person c_holds) (fun _ _ => (.cons (.int _) (.cons .non .nil))) hr (by decide) (by rfl) (dac (dv 1) (dac (dv 2) danil)) (dkcons (dv 3) dknil))))
  snil)
  (scons (sif (dtcmp (op_eqA hr.units) ok_eq (dv 0) di (nomark _))
  (sone (sret (dclK (dd := [.int 0, .none]) (pc := [(0, 0), (0, 1), (1, 0), (2, 0)]) (sh_holds_2_folk c_holds) (fun _ _ => (.cons (.int _) (.cons .non .nil))) hr (by decide) (by rfl) (dac (dv 1) (dac (dv 2) danil)) (dkcons (dv 4) dknil))))
  snil)
  (sone (sret (dclD (dd := [.int 0, .none]) (sh_holds_2 c_holds) (fun _ _ => (.cons (.int _) (.cons .non .nil))) hr (by decide) (by rfl) (dac (dv 1) (dac (dv 2) danil)))))))))
/-! #### _law_asked_right -/
abbrev s__law_asked_right : Stmt := topS 74
theorem sc__law_asked_right : FnScope ["_law_pot_here", "_law_condition_here", "_law_taken_here", "_law_house", "_law_way", "_law_someone", "_law_shown", "_law_due", "_law_again", "_law_found"] ["_law_pot_here", "_law_condition_here", "_law_taken_here", "_law_house"] (defScope s__law_asked_right) := ⟨rfl, rfl, rfl, by decide +kernel, rfl, by decide +kernel, by decide +kernel⟩
def b__law_asked_right : DS := (sSeq (sFor (itR1 (dC (.int 5))) (tgN 4)
  (sSeq (sSet 5 (dCallM m__law_take 0 (aCons (dC (.int 5)) aNil)))
  (sSeq (sSet 6 (dB gReprT (aCons (dTup (aCons (dVar 1) (aCons (dVar 2) (aCons (dVar 3) aNil)))) aNil)))
  (sSeq (sSet 7 (dCall (m__law_holds 7) (aCons (dVar 1) (aCons (dVar 2) (aCons (dOp gMulB (dVar 5) (dB gIntA (aCons (dOp gLt (dVar 4) (dC (.int 3))) aNil))) (aCons (dIf (dTst (dOp (gIn false) (dVar 4) (dTup (aCons (dC (.int 0)) (aCons (dC (.int 1)) (aCons (dC (.int 3)) aNil)))))) (dVar 3) (dC (.dict []))) aNil))))))
  (sFor (itR1 (dC (.int 2))) (tgN 8)
  (sSeq (sSet 9 (dCall m__law_told (aCons (dVar 4) (aCons (dVar 1) (aCons (dVar 2) (aCons (dVar 5) (aCons (dVar 3) aNil)))))))
  (sIf (dOrT (dNotT (dTst (dUn (gIsi "bool") (dVar 9)))) (dOrT (dTst (dOp gNe (dVar 9) (dVar 7))) (dTst (dOp gNe (dB gReprT (aCons (dTup (aCons (dVar 1) (aCons (dVar 2) (aCons (dVar 3) aNil)))) aNil)) (dVar 6)))))
  (sRet (dC (.bool false)))
  sNil)))))))
  (sRet (dC (.bool true))))
def m__law_asked_right : List PyData → List PyData → Option (PyData × List PyData) := fnM ["_law_pot_here", "_law_condition_here", "_law_taken_here", "_law_house", "_law_way", "_law_someone", "_law_shown", "_law_due", "_law_again", "_law_found"] 4 b__law_asked_right
theorem ok__law_asked_right (F : Std K mg "_law_asked_right" s__law_asked_right ["_law_pot_here", "_law_condition_here", "_law_taken_here", "_law_house"]) (sys : SysB base) (T : Tx K mg) (c__law_take : Cal P w K mg base 1 "_law_take" ["_law_pot_here", "_law_many"] (spM K m__law_take)) (c__law_holds : Cal P w K mg base 8 "_law_holds" ["_law_condition_here", "_law_taken_here", "_law_someone", "_law_house"] (spP K (m__law_holds 7))) (c__law_told : Cal P w K mg base 24 "_law_told" ["_law_way", "_law_condition_here", "_law_taken_here", "_law_someone", "_law_house"] (spP K m__law_told)) : CalG P w K mg base 25 "_law_asked_right" ["_law_pot_here", "_law_condition_here", "_law_taken_here", "_law_house"] (spM K m__law_asked_right) := by
  refine calMG F sc__law_asked_right sys (fun f cdv A outer s H E Z hr cg => ?_)
  unfold b__law_asked_right
  exact (scons (sfor PassesOwn.never rfl (pir1 (by rfl) T.b_range di) (pg_name (i := 4) sc__law_asked_right.nd rfl (by first | exact .inl rfl | exact .inr rfl)) tgn
  (scons (sset (i := 5) sc__law_asked_right.nd rfl (by first | exact .inl rfl | exact .inr rfl) (dclM 0 c__law_take hr (by decide) (by rfl) (pv 0) (dac di danil)))
  (scons (sset (i := 6) sc__law_asked_right.nd rfl (by first | exact .inl rfl | exact .inr rfl) (dcb (call_reprT cg) ok_reprT (by rfl) T.b_repr (by decide +kernel) (dac (dtup (dac (dv 1) (dac (dv 2) (dac (dv 3) danil)))) danil)))
  (scons (sset (i := 7) sc__law_asked_right.nd rfl (by first | exact .inl rfl | exact .inr rfl) (dcl c__law_holds hr (by decide) (by rfl) (dac (dv 1) (dac (dv 2) (dac (do_ op_mulB ok_mulB (dv 5) (dcty call_intA ok_intA (by rfl) T.b_int (by decide +kernel) (dac (dcmp op_ltA ok_lt (dv 4) di (nomark _)) danil))) (dac (dif_ (dtcmp (op_inA (hu_of hr)) ok_in (dv 4) (dtup (dac di (dac di (dac di danil)))) (by first | rfl | with_unfolding_all rfl)) (dv 3) ddct) danil))))))
  (sone (sfor PassesOwn.never rfl (pir1 (by rfl) T.b_range di) (pg_name (i := 8) sc__law_asked_right.nd rfl (by first | exact .inl rfl | exact .inr rfl)) tgn
  (scons (sset (i := 9) sc__law_asked_right.nd rfl (by first | exact .inl rfl | exact .inr rfl) (dcl c__law_told hr (by decide) (by rfl) (dac (dv 4) (dac (dv 1) (dac (dv 2) (dac (dv 5) (dac (dv 3) danil)))))))
  (sone (sif (PW.pt (dtor (dtnot (dt (disi isi_bool (by rfl) T.b_isinstance (by decide +kernel) (by rfl) T.b_bool (by decide +kernel) (dv 9)))) (dtor (dtcmp (op_neA hr.units) ok_ne (dv 9) (dv 7) (nomark _)) (pw_or1 (dtcmp (op_neA hr.units) ok_ne (dcb (call_reprT cg) ok_reprT (by rfl) T.b_repr (by decide +kernel) (dac (dtup (dac (dv 1) (dac (dv 2) (dac (dv 3) danil)))) danil)) (dv 6) (nomark _))))))
  (sone (sret db))
  snil)))))))))
  (sone (sret db)))
/-! #### law -/
abbrev s_law : Stmt := topS 75
theorem sc_law : FnScope ["_law_script", "_law_k", "_law_pot_here", "_law_names_here", "_law_turn", "_law_condition_here", "_law_taken_here", "_law_house", "_law_thing", "~tab"] ["_law_script"] (defScope s_law) := ⟨rfl, rfl, rfl, by decide +kernel, rfl, by decide +kernel, by decide +kernel⟩
def b_law : DS := (sSeq (sFor (itR1 (dB gMax2 (aCons (dC (.int 3)) (aCons (dB gMin (aCons (dC (.int 10)) (aCons (dB gLen (aCons (dVar 0) aNil)) aNil))) aNil)))) (tgN 1)
  (sSeq (sOwn 2 (fCall m__law_pot (aCons (dVar 0) (aCons (dVar 1) aNil))))
  (sSeq (sSet 3 (dCallM m__law_names 2 aNil))
  (sSeq (sFor (itR1 (dC (.int 3))) (tgN 4)
  (sSeq (sSet 5 (dCallM m__law_condition 2 (aCons (dVar 3) aNil)))
  (sSeq (sAsg (dTup (aCons (dCallM m__law_taken 2 (aCons (dVar 3) aNil)) (aCons (dCallM m__law_folk 2 (aCons (dVar 3) aNil)) aNil))) (tgT [(tgN 6), (tgN 7)]))
  (sIf (dNotT (dTst (dCallM m__law_asked_right 2 (aCons (dVar 5) (aCons (dVar 6) (aCons (dVar 7) aNil))))))
  (sRet (dC (.bool false)))
  sNil))))
  (sFor (itA (dL (fLst (aCons (dCallM (m__law_bent 5) 2 (aCons (dVar 5) (aCons (dC (.int 4)) aNil))) (aCons (dCallM m__law_odd 2 aNil) (aCons (dB gList (aCons (dVar 5) aNil)) (aCons (dTup (aCons (dC (.str "and")) (aCons (dTup (aCons (dVar 5) aNil)) aNil))) (aCons (dTup (aCons (dC (.str "not")) aNil)) aNil)))))))) (tgN 8)
  (sIf (dAndT (dNotT (dTst (dCall m__law_is_condition (aCons (dVar 8) aNil)))) (dTst (dOp gNe (dWord q_ w__law_word m_holds (aCons (dVar 8) (aCons (dVar 6) (aCons (dC (.int 0)) (aCons (dVar 7) aNil))))) (dC (.str "condition")))))
  (sRet (dC (.bool false)))
  sNil))))))
  (sSeq (sSet 6 (dDispT [((dTup (aCons (dC (.str "a")) (aCons (dC (.int 0)) aNil))), (dC (.str "b"))), ((dTup (aCons (dC (.str "a")) (aCons (dC (.int 2)) aNil))), (dC (.str "c"))), ((dTup (aCons (dC (.str "n")) (aCons (dC (.int 1)) aNil))), (dC (.int 7)))]))
  (sSeq (sIf (dOrT (dTst (dCall (withD (okOf m_holds) [.none]) (aCons (dTup (aCons (dC (.str "is")) (aCons (dC (.str "a")) (aCons (dC (.str "b")) aNil)))) (aCons (dVar 6) (aCons (dC (.int 2)) aNil))))) (dOrT (dNotT (dTst (dCall (withD (okOf m_holds) [.none]) (aCons (dTup (aCons (dC (.str "is")) (aCons (dC (.str "a")) (aCons (dC (.str "b")) aNil)))) (aCons (dVar 6) (aCons (dC (.int 1)) aNil)))))) (dTst (dCall (withD (okOf m_holds) [.int 0, .none]) (aCons (dTup (aCons (dC (.str "from")) (aCons (dC (.str "n")) (aCons (dC (.int 7)) aNil)))) (aCons (dVar 6) aNil))))))
  (sRet (dC (.bool false)))
  sNil)
  (sRet (dAnd (dCallK (okOf m_holds) 2 1 (fun us zs => pick [(0, 0), (0, 1), (1, 0), (2, 0)] us [.int 0, .none] zs) (aCons (dTup (aCons (dC (.str "any")) (aCons (dC (.str "r")) (aCons (dTup (aCons (dC (.str "from")) (aCons (dC (.str "n")) (aCons (dC (.int 7)) aNil)))) aNil)))) (aCons (dVar 6) aNil)) (aCons (dDispK [((dC (.str "r")), (dC (.int 1)))]) aNil)) (dCall (withD (okOf m_holds) [.int 0, .none]) (aCons (dTup (aCons (dC (.str "every")) (aCons (dC (.str "r")) (aCons (dTup (aCons (dC (.str "is")) (aCons (dC (.str "x")) (aCons (dC (.str "y")) aNil)))) aNil)))) (aCons (dVar 6) aNil))))))))
def m_law : List PyData → Option PyData := fnP ["_law_script", "_law_k", "_law_pot_here", "_law_names_here", "_law_turn", "_law_condition_here", "_law_taken_here", "_law_house", "_law_thing", "~tab"] 1 b_law
theorem ok_law (T : Tx K mg) (Fx : ExF K mg nm_ ts_) (F__law_word : Std K mg "_law_word" s__law_word ["_law_call"]) (c__law_pot : Cal P w K mg base 1 "_law_pot" ["_law_script", "_law_k"] (spF K m__law_pot)) (c__law_names : Cal P w K mg base 3 "_law_names" ["_law_pot_here"] (spM K m__law_names)) (c__law_condition : Cal P w K mg base 11 "_law_condition" ["_law_pot_here", "_law_names_here"] (spM K m__law_condition)) (c__law_folk : Cal P w K mg base 2 "_law_folk" ["_law_pot_here", "_law_names_here"] (spM K m__law_folk)) (c__law_taken : Cal P w K mg base 2 "_law_taken" ["_law_pot_here", "_law_names_here"] (spM K m__law_taken)) (c__law_asked_right : CalG P w K mg base 25 "_law_asked_right" ["_law_pot_here", "_law_condition_here", "_law_taken_here", "_law_house"] (spM K m__law_asked_right)) (c__law_odd : Cal P w K mg base 2 "_law_odd" ["_law_pot_here"] (spM K m__law_odd)) (c__law_bent : Cal P w K mg base 8 "_law_bent" ["_law_pot_here", "_law_thing", "_law_deep"] (spM K (m__law_bent 5))) (c__law_is_condition : Cal P w K mg base 12 "_law_is_condition" ["_law_thing"] (spP K m__law_is_condition)) (c_holds : CalD P w K mg base 23 "holds" s_holds ["condition", "taken", "person", "folk"] (spX K mg m_holds) dv_holds) (f c Tb : Addr) (A : Around) (outer : List Env) (s : Shared) (H : Hp) (E : XK) (Z : Par) (hr : Room 28 (A.deeper (envOfC "law" (defScope s_law) s.heap.objs.size f (.ref c)))) (cg : CG (cxOf CX0 P w K mg base ["_law_script", "_law_k", "_law_pot_here", "_law_names_here", "_law_turn", "_law_condition_here", "_law_taken_here", "_law_house", "_law_thing", "~tab"] "law" (defScope s_law) f (.ref c) A outer s H E).nox) (TB : LamX.TabB base mg c Tb) (hZ : Z.p = some Tb) : PSs (cxOf CX0 P w K mg base ["_law_script", "_law_k", "_law_pot_here", "_law_names_here", "_law_turn", "_law_condition_here", "_law_taken_here", "_law_house", "_law_thing", "~tab"] "law" (defScope s_law) f (.ref c) A outer s H E).nox (defBody s_law) (lfS K Z b_law) := by
  unfold b_law
  exact (scons (sfor PassesOwn.never rfl (pir1 (by rfl) T.b_range (dcb (call_max2 rfl) ok_max2 (by rfl) T.b_max (by decide +kernel) (dac di (dac (dcb (call_minA rfl) ok_minA (by rfl) T.b_min (by decide +kernel) (dac di (dac (dcb call_len ok_len (by rfl) T.b_len boot_len (dac (dv 0) danil)) danil))) danil)))) (pg_name (i := 1) sc_law.nd rfl (by first | exact .inl rfl | exact .inr rfl)) tgn
  (scons (sown (i := 2) sc_law.nd rfl (by first | exact .inl rfl | exact .inr rfl) (fcl c__law_pot hr (by decide) (by rfl) (dac (dv 0) (dac (dv 1) danil))))
  (scons (sset (i := 3) sc_law.nd rfl (by first | exact .inl rfl | exact .inr rfl) (dclM 2 c__law_names hr (by decide) (by rfl) (pv 2) danil))
  (scons (sfor PassesOwn.never rfl (pir1 (by rfl) T.b_range di) (pg_name (i := 4) sc_law.nd rfl (by first | exact .inl rfl | exact .inr rfl)) tgn
  (scons (sset (i := 5) sc_law.nd rfl (by first | exact .inl rfl | exact .inr rfl) (dclM 2 c__law_condition hr (by decide) (by rfl) (pv 2) (dac (dv 3) danil)))
  (scons (sasg (dtup (dac (dclM 2 c__law_taken hr (by decide) (by rfl) (pv 2) (dac (dv 3) danil)) (dac (dclM 2 c__law_folk hr (by decide) (by rfl) (pv 2) (dac (dv 3) danil)) danil))) (pg_tup rfl (pgs_cons (pg_name (i := 6) sc_law.nd rfl (by first | exact .inl rfl | exact .inr rfl)) (pgs_cons (pg_name (i := 7) sc_law.nd rfl (by first | exact .inl rfl | exact .inr rfl)) pgs_nil))) (tgt rfl (tgscons tgn (tgscons tgn tgsnil))))
  (sone (sif (dtnot (dt (dclMG 2 c__law_asked_right cg hr (by decide) (by rfl) (pv 2) (dac (dv 5) (dac (dv 6) (dac (dv 7) danil))))))
  (sone (sret db))
  snil)))))
  (sone (sfor PassesOwn.never rfl (pia (dfr (flst (dac (dclM 2 c__law_bent hr (by decide) (by rfl) (pv 2) (dac (dv 5) (dac di danil))) (dac (dclM 2 c__law_odd hr (by decide) (by rfl) (pv 2) danil) (dac (dcty call_list_of ok_list (by rfl) T.b_list (by decide +kernel) (dac (dv 5) danil)) (dac (dtup (dac ds (dac (dtup (dac (dv 5) danil)) danil))) (dac (dtup (dac ds danil)) danil)))))))) (pg_name (i := 8) sc_law.nd rfl (by first | exact .inl rfl | exact .inr rfl)) tgn
  (sone (sif (PW.pt (dtand (dtnot (dt (dcl c__law_is_condition hr (by decide) (by rfl) (dac (dv 8) danil)))) (pw_and1 (dtcmp (op_neA hr.units) ok_ne (dword F__law_word sc__law_word rfl (.inl rfl) (wg__law_word T Fx hr _) TB rfl hZ (by rfl) (hr.mono (j := 26 + 2) (by decide)) (nmd_of Fx) (fun _ _ => wordOf_in) (by rfl) (LamX.lamS_by (by show LamX.lamSB (defScope s_law) _ = true; decide +kernel)) (fun A outer s H E f c r => xcl (L2.takes_of rfl rfl rfl rfl) (sh_holds_4 c_holds) r (by decide) (by rfl) (dac (dv 8) (dac (dv 6) (dac di (dac (dv 7) danil)))))) ds (nomark _)))))
  (sone (sret db))
  snil))))))))
  (scons (sset (i := 6) sc_law.nd rfl (by first | exact .inl rfl | exact .inr rfl) (ddispT (fs := [((dTup (aCons (dC (.str "a")) (aCons (dC (.int 0)) aNil))), (dC (.str "b"))), ((dTup (aCons (dC (.str "a")) (aCons (dC (.int 2)) aNil))), (dC (.str "c"))), ((dTup (aCons (dC (.str "n")) (aCons (dC (.int 1)) aNil))), (dC (.int 7)))]) (hu_of hr) (pps_cons (pe_E fun _ => (dtup (dac ds (dac di danil)))) (pe_E fun _ => ds) (pps_cons (pe_E fun _ => (dtup (dac ds (dac di danil)))) (pe_E fun _ => ds) (pps_cons (pe_E fun _ => (dtup (dac ds (dac di danil)))) (pe_E fun _ => di) pps_nil)))))
  (scons (sif (PW.pt (dtor (dt (dclD (dd := [.none]) (sh_holds_3 c_holds) (fun _ _ => (.cons .non .nil)) hr (by decide) (by rfl) (dac (dtup (dac ds (dac ds (dac ds danil)))) (dac (dv 6) (dac di danil))))) (dtor (dtnot (dt (dclD (dd := [.none]) (sh_holds_3 c_holds) (fun _ _ => (.cons .non .nil)) hr (by decide) (by rfl) (dac (dtup (dac ds (dac ds (dac ds danil)))) (dac (dv 6) (dac di danil)))))) (pw_or1 (dt (dclD (dd := [.int 0, .none]) (sh_holds_2 c_holds) (fun _ _ => (.cons (.int _) (.cons .non .nil))) hr (by decide) (by rfl) (dac (dtup (dac ds (dac ds (dac di danil)))) (dac (dv 6) danil))))))))
  (sone (sret db))
  snil)
  (sone (sret (dand (dclK (dd := [.int 0, .none]) (pc := [(0, 0), (0, 1), (1, 0), (2, 0)]) (sh_holds_2_folk c_holds) (fun _ _ => (.cons (.int _) (.cons .non .nil))) hr (by decide) (by rfl) (dac (dtup (dac ds (dac ds (dac (dtup (dac ds (dac ds (dac di danil)))) danil)))) (dac (dv 6) danil)) (dkcons (ddispK (fs := [((dC (.str "r")), (dC (.int 1)))]) (pps_cons (pe_E fun _ => ds) (pe_E fun _ => di) pps_nil)) dknil)) (pe_one (dclD (dd := [.int 0, .none]) (sh_holds_2 c_holds) (fun _ _ => (.cons (.int _) (.cons .non .nil))) hr (by decide) (by rfl) (dac (dtup (dac ds (dac ds (dac (dtup (dac ds (dac ds (dac ds danil)))) danil)))) (dac (dv 6) danil))))))))))
end
end K07

namespace K07
open PySem PySem.Spec PyProof.Rows L2 Dl
def fn_ : List He.DefD := [dOf "is_name" s_is_name, dOf "is_whole" s_is_whole, dOf "is_number" s_is_number, dOf "_is_piece" s__is_piece, dOf "_count_group" s__count_group, dOf "_count_pieces" s__count_pieces, dOf "is_condition" s_is_condition, dOf "check_condition" s_check_condition, dOf "fits" s_fits, dOf "_piece_holds" s__piece_holds, dOf "holds_by" s_holds_by, dOfD "holds" s_holds [.int 0, .non], dOf "_law_pot" s__law_pot, dOf "_law_take" s__law_take, dOf "_law_words" s__law_words, dOf "_law_name" s__law_name, dOf "_law_is_name" s__law_is_name, dOf "_law_is_within" s__law_is_within, dOf "_law_odd" s__law_odd, dOf "_law_bent" s__law_bent, dOf "_law_word" s__law_word, dOf "_law_names" s__law_names, dOf "_law_piece" s__law_piece, dOf "_law_drawn" s__law_drawn, dOf "_law_condition" s__law_condition, dOf "_law_pieces" s__law_pieces, dOf "_law_is_condition" s__law_is_condition, dOf "_law_holds" s__law_holds, dOf "_law_taken" s__law_taken, dOf "_law_folk" s__law_folk, dOf "_law_told" s__law_told, dOf "_law_asked_right" s__law_asked_right, dOf "law" s_law]
def fa_ : List He.Fa := [.glo "is_name", .glo "is_whole", .glo "is_number", .glo "_is_piece", .glo "_count_group", .glo "_count_pieces", .glo "is_condition", .glo "check_condition", .glo "fits", .glo "_piece_holds", .glo "holds_by", .glo "holds", .glo "_law_pot", .glo "_law_take", .glo "_law_words", .glo "_law_name", .glo "_law_is_name", .glo "_law_is_within", .glo "_law_odd", .glo "_law_bent", .glo "_law_word", .glo "_law_names", .glo "_law_piece", .glo "_law_drawn", .glo "_law_condition", .glo "_law_pieces", .glo "_law_is_condition", .glo "_law_holds", .glo "_law_taken", .glo "_law_folk", .glo "_law_told", .glo "_law_asked_right", .glo "law", .free "ValueError", .free "abs", .free "all", .free "any", .free "bool", .free "dict", .free "int", .free "isinstance", .free "len", .free "list", .free "max", .free "min", .free "range", .free "repr", .free "str", .free "sum", .free "tuple"]
def cs_ : List (Str × PyData) := [("GROUPS", d_GROUPS), ("LETTERS", d_LETTERS), ("LONGEST_NAME", d_LONGEST_NAME), ("MOST_PIECES", d_MOST_PIECES), ("MOST_TOGETHER", d_MOST_TOGETHER), ("MOST_WITHIN", d_MOST_WITHIN), ("PIECES", d_PIECES), ("ROUNDS", d_ROUNDS), ("TOP_NUMBER", d_TOP_NUMBER), ("WORDS", d_WORDS)]
def names_0 : List Str := [("AskError" : Str), ("NoKind" : Str), ("NoValue" : Str), ("NoCondition" : Str), ("NoKey" : Str), ("TooWide" : Str), ("Stuck" : Str), ("NoBook" : Str), ("Clash" : Str), ("Full" : Str), ("NoNames" : Str), ("NoEntry" : Str), ("NoCheck" : Str), ("Twice" : Str), ("NoLines" : Str), ("NoRound" : Str), ("NoWeights" : Str), ("NoTable" : Str), ("NoFits" : Str), ("NoTotals" : Str), ("NoCounts" : Str), ("NoPlaces" : Str), ("NoPlace" : Str), ("NoText" : Str), ("NoLine" : Str), ("NoForm" : Str), ("CannotGo" : Str), ("NoRecord" : Str), ("NoFit" : Str), ("WORDS" : Str), ("LETTERS" : Str), ("LONGEST_NAME" : Str), ("TOP_NUMBER" : Str), ("is_name" : Str), ("is_whole" : Str), ("is_number" : Str), ("PIECES" : Str), ("GROUPS" : Str), ("ROUNDS" : Str), ("MOST_WITHIN" : Str)]
def names_1 : List Str := [("MOST_PIECES" : Str), ("MOST_TOGETHER" : Str), ("is_condition" : Str), ("_count_pieces" : Str), ("_count_group" : Str), ("_is_piece" : Str), ("check_condition" : Str), ("holds" : Str), ("holds_by" : Str), ("_piece_holds" : Str), ("fits" : Str), ("_law_pot" : Str), ("_law_take" : Str), ("_law_words" : Str), ("_law_name" : Str), ("_law_is_name" : Str), ("_law_is_within" : Str), ("_law_odd" : Str), ("_law_bent" : Str), ("_law_word" : Str), ("_law_names" : Str), ("_law_piece" : Str), ("_law_drawn" : Str), ("_law_condition" : Str), ("_law_pieces" : Str), ("_law_is_condition" : Str), ("_law_holds" : Str), ("_law_taken" : Str), ("_law_folk" : Str), ("_law_told" : Str), ("_law_asked_right" : Str)]
def names_ : List Str := names_0 ++ names_1
abbrev R_ : PySem.W.OpenRow := PySem.W.OpenLaw.row PySem.Challenge.rw_askround_k07_what_holds
abbrev hk_ : PySem.W.Hook := He.hookX 5 fa_ fn_ [] [lawD] (exB cs_ nm_ ts_)
def ob_ (s : PySem.W.SharedT) : He.AlX := He.obsX 5 fa_ fn_ [] [lawD] (exB cs_ nm_ ts_) (HandSHeadRun.getT s)
theorem ob_eq (s : PySem.W.SharedT) : ob_ s = hk_.obs s.abs := He.obsX_eq (HandSHeadRun.getT_eq s)
theorem run_ (w : World) : HandSHeadRun.RunEq R_ (PySem.W.view R_.prog [75]) hk_ ob_ 30000 names_ w := by
  intro os
  kernel_rfl
theorem facts_ (w : World) (mg : Str → Option Value) (h : Heap) (K : PySem.W.Frag) (X : K.In h) (G : h.Ns mainGlobals mg) (c : He.SaysD fa_ fn_ K) (cc : cs_.all (gcB K) = true) (Fx : ExF K mg nm_ ts_) : ∃ fd : FuncData, mg "law" = some (.ref (He.fAd K lawD)) ∧ Fun K "law" "law" s_law (He.fAd K lawD) fd ∧ (∀ (s : Shared) (u : Value), BindsTo s fd ⟨[u], []⟩ [("_law_script", u)]) ∧
      ∀ (base : Heap) (c T : Addr) (s : Shared) (H : Hp) (Z : Par), Mod K mg base → Room 28 (callerA.deeper (envOfC "law" (defScope s_law) s.heap.objs.size (He.fAd K lawD) (.ref c))) → CG (cxOf CX0 R_.prog w K mg base ["_law_script", "_law_k", "_law_pot_here", "_law_names_here", "_law_turn", "_law_condition_here", "_law_taken_here", "_law_house", "_law_thing", "~tab"] "law" (defScope s_law) (He.fAd K lawD) (.ref c) callerA [] s H E0).nox → LamX.TabB base mg c T → Z.p = some T →
        PSs (cxOf CX0 R_.prog w K mg base ["_law_script", "_law_k", "_law_pot_here", "_law_names_here", "_law_turn", "_law_condition_here", "_law_taken_here", "_law_house", "_law_thing", "~tab"] "law" (defScope s_law) (He.fAd K lawD) (.ref c) callerA [] s H E0).nox (defBody s_law) (lfS K Z b_law) := by
  have T : Tx K mg := ⟨free_of X G c 33, free_of X G c 34, free_of X G c 35, free_of X G c 36, free_of X G c 37, free_of X G c 38, free_of X G c 39, free_of X G c 40, free_of X G c 41, free_of X G c 42, free_of X G c 43, free_of X G c 44, free_of X G c 45, free_of X G c 46, free_of X G c 47, free_of X G c 48, free_of X G c 49, const_of X G cc 0, const_of X G cc 1, const_of X G cc 2, const_of X G cc 3, const_of X G cc 4, const_of X G cc 5, const_of X G cc 6, const_of X G cc 7, const_of X G cc 8, const_of X G cc 9⟩
  have F_is_name : Std K mg "is_name" s_is_name ["thing"] := std_of X G c 0 0 rfl rfl (fun _ _ _ _ _ _ us hl => match us, hl with | [_], _ => rfl)
  have F_is_whole : Std K mg "is_whole" s_is_whole ["thing"] := std_of X G c 1 1 rfl rfl (fun _ _ _ _ _ _ us hl => match us, hl with | [_], _ => rfl)
  have F_is_number : Std K mg "is_number" s_is_number ["thing"] := std_of X G c 2 2 rfl rfl (fun _ _ _ _ _ _ us hl => match us, hl with | [_], _ => rfl)
  have F__is_piece : Std K mg "_is_piece" s__is_piece ["thing"] := std_of X G c 3 3 rfl rfl (fun _ _ _ _ _ _ us hl => match us, hl with | [_], _ => rfl)
  have F__count_group : Std K mg "_count_group" s__count_group ["parts", "room", "in_round"] := std_of X G c 4 4 rfl rfl (fun _ _ _ _ _ _ us hl => match us, hl with | [_, _, _], _ => rfl)
  have F__count_pieces : Std K mg "_count_pieces" s__count_pieces ["thing", "room", "in_round"] := std_of X G c 5 5 rfl rfl (fun _ _ _ _ _ _ us hl => match us, hl with | [_, _, _], _ => rfl)
  have F_is_condition : Std K mg "is_condition" s_is_condition ["thing"] := std_of X G c 6 6 rfl rfl (fun _ _ _ _ _ _ us hl => match us, hl with | [_], _ => rfl)
  have F_check_condition : Std K mg "check_condition" s_check_condition ["thing"] := std_of X G c 7 7 rfl rfl (fun _ _ _ _ _ _ us hl => match us, hl with | [_], _ => rfl)
  have F_fits : Std K mg "fits" s_fits ["word", "wanted", "answer"] := std_of X G c 8 8 rfl rfl (fun _ _ _ _ _ _ us hl => match us, hl with | [_, _, _], _ => rfl)
  have F__piece_holds : Std K mg "_piece_holds" s__piece_holds ["piece", "taken", "person"] := std_of X G c 9 9 rfl rfl (fun _ _ _ _ _ _ us hl => match us, hl with | [_, _, _], _ => rfl)
  have F_holds_by : Std K mg "holds_by" s_holds_by ["condition", "taken", "person", "folk"] := std_of X G c 10 10 rfl rfl (fun _ _ _ _ _ _ us hl => match us, hl with | [_, _, _, _], _ => rfl)
  have F_holds : StdD K mg "holds" s_holds dv_holds := std_ofD X G c 11 11 rfl rfl rfl
  have F__law_pot : Std K mg "_law_pot" s__law_pot ["_law_script", "_law_k"] := std_of X G c 12 12 rfl rfl (fun _ _ _ _ _ _ us hl => match us, hl with | [_, _], _ => rfl)
  have F__law_take : Std K mg "_law_take" s__law_take ["_law_pot_here", "_law_many"] := std_of X G c 13 13 rfl rfl (fun _ _ _ _ _ _ us hl => match us, hl with | [_, _], _ => rfl)
  have F__law_words : Std K mg "_law_words" s__law_words [] := std_of X G c 14 14 rfl rfl (fun _ _ _ _ _ _ us hl => match us, hl with | [], _ => rfl)
  have F__law_name : Std K mg "_law_name" s__law_name ["_law_pot_here"] := std_of X G c 15 15 rfl rfl (fun _ _ _ _ _ _ us hl => match us, hl with | [_], _ => rfl)
  have F__law_is_name : Std K mg "_law_is_name" s__law_is_name ["_law_thing"] := std_of X G c 16 16 rfl rfl (fun _ _ _ _ _ _ us hl => match us, hl with | [_], _ => rfl)
  have F__law_is_within : Std K mg "_law_is_within" s__law_is_within ["_law_thing", "_law_low", "_law_high"] := std_of X G c 17 17 rfl rfl (fun _ _ _ _ _ _ us hl => match us, hl with | [_, _, _], _ => rfl)
  have F__law_odd : Std K mg "_law_odd" s__law_odd ["_law_pot_here"] := std_of X G c 18 18 rfl rfl (fun _ _ _ _ _ _ us hl => match us, hl with | [_], _ => rfl)
  have F__law_bent : Std K mg "_law_bent" s__law_bent ["_law_pot_here", "_law_thing", "_law_deep"] := std_of X G c 19 19 rfl rfl (fun _ _ _ _ _ _ us hl => match us, hl with | [_, _, _], _ => rfl)
  have F__law_word : Std K mg "_law_word" s__law_word ["_law_call"] := std_of X G c 20 20 rfl rfl (fun _ _ _ _ _ _ us hl => match us, hl with | [_], _ => rfl)
  have F__law_names : Std K mg "_law_names" s__law_names ["_law_pot_here"] := std_of X G c 21 21 rfl rfl (fun _ _ _ _ _ _ us hl => match us, hl with | [_], _ => rfl)
  have F__law_piece : Std K mg "_law_piece" s__law_piece ["_law_pot_here", "_law_names_here"] := std_of X G c 22 22 rfl rfl (fun _ _ _ _ _ _ us hl => match us, hl with | [_, _], _ => rfl)
  have F__law_drawn : Std K mg "_law_drawn" s__law_drawn ["_law_pot_here", "_law_names_here", "_law_deep", "_law_most", "_law_within"] := std_of X G c 23 23 rfl rfl (fun _ _ _ _ _ _ us hl => match us, hl with | [_, _, _, _, _], _ => rfl)
  have F__law_condition : Std K mg "_law_condition" s__law_condition ["_law_pot_here", "_law_names_here"] := std_of X G c 24 24 rfl rfl (fun _ _ _ _ _ _ us hl => match us, hl with | [_, _], _ => rfl)
  have F__law_pieces : Std K mg "_law_pieces" s__law_pieces ["_law_thing", "_law_deep", "_law_within"] := std_of X G c 25 25 rfl rfl (fun _ _ _ _ _ _ us hl => match us, hl with | [_, _, _], _ => rfl)
  have F__law_is_condition : Std K mg "_law_is_condition" s__law_is_condition ["_law_thing"] := std_of X G c 26 26 rfl rfl (fun _ _ _ _ _ _ us hl => match us, hl with | [_], _ => rfl)
  have F__law_holds : Std K mg "_law_holds" s__law_holds ["_law_condition_here", "_law_taken_here", "_law_someone", "_law_house"] := std_of X G c 27 27 rfl rfl (fun _ _ _ _ _ _ us hl => match us, hl with | [_, _, _, _], _ => rfl)
  have F__law_taken : Std K mg "_law_taken" s__law_taken ["_law_pot_here", "_law_names_here"] := std_of X G c 28 28 rfl rfl (fun _ _ _ _ _ _ us hl => match us, hl with | [_, _], _ => rfl)
  have F__law_folk : Std K mg "_law_folk" s__law_folk ["_law_pot_here", "_law_names_here"] := std_of X G c 29 29 rfl rfl (fun _ _ _ _ _ _ us hl => match us, hl with | [_, _], _ => rfl)
  have F__law_told : Std K mg "_law_told" s__law_told ["_law_way", "_law_condition_here", "_law_taken_here", "_law_someone", "_law_house"] := std_of X G c 30 30 rfl rfl (fun _ _ _ _ _ _ us hl => match us, hl with | [_, _, _, _, _], _ => rfl)
  have F__law_asked_right : Std K mg "_law_asked_right" s__law_asked_right ["_law_pot_here", "_law_condition_here", "_law_taken_here", "_law_house"] := std_of X G c 31 31 rfl rfl (fun _ _ _ _ _ _ us hl => match us, hl with | [_, _, _, _], _ => rfl)
  have F_law : Std K mg "law" s_law ["_law_script"] := std_of X G c 32 32 rfl rfl (fun _ _ _ _ _ _ us hl => match us, hl with | [_], _ => rfl)
  obtain ⟨f, fd, F, m, b⟩ := F_law
  obtain rfl : f = He.fAd K lawD := Value.ref.inj (Option.some.inj (m.symm.trans (He.glo_ok X G (c.fact 32 rfl))))
  have bt : ∀ (s : Shared) (u : Value), BindsTo s fd ⟨[u], []⟩ [("_law_script", u)] := fun s u => by
    obtain ⟨⟨_, _, _, _, _, _, _, _, _, e, _⟩, _⟩ := F
    subst e
    exact .of_eq rfl
  refine ⟨fd, m, F, bt, fun base c Tb s H Z _ hr cg TB hZ => ?_⟩
  have c_is_name := ok_is_name (P := R_.prog) (w := w) (base := base) F_is_name  T  
  have c_is_whole := ok_is_whole (P := R_.prog) (w := w) (base := base) F_is_whole  T  
  have c_is_number := ok_is_number (P := R_.prog) (w := w) (base := base) F_is_number  T  c_is_whole
  have c__is_piece := ok__is_piece (P := R_.prog) (w := w) (base := base) F__is_piece  T  c_is_name c_is_number
  have c__count_pieces := (ok__count_pieces (P := R_.prog) (w := w) (base := base) F__count_pieces F__count_group T  c__is_piece c_is_name 8).mono (k := 20) (by decide)
  have c_is_condition := ok_is_condition (P := R_.prog) (w := w) (base := base) F_is_condition  T  c__count_pieces
  have c_check_condition := ok_check_condition (P := R_.prog) (w := w) (base := base) F_check_condition  T Fx c_is_condition
  have c_fits := ok_fits (P := R_.prog) (w := w) (base := base) F_fits  T  c_is_whole
  have c__piece_holds := ok__piece_holds (P := R_.prog) (w := w) (base := base) F__piece_holds  T  c_fits
  have c_holds_by := (ok_holds_by (P := R_.prog) (w := w) (base := base) F_holds_by  T  c__piece_holds 7).mono (k := 11) (by decide)
  have c_holds := ok_holds (P := R_.prog) (w := w) (base := base) F_holds  T  c_check_condition c_holds_by
  have c__law_pot := ok__law_pot (P := R_.prog) (w := w) (base := base) F__law_pot  T  
  have c__law_take := ok__law_take (P := R_.prog) (w := w) (base := base) F__law_take  T  
  have c__law_words := ok__law_words (P := R_.prog) (w := w) (base := base) F__law_words  T  
  have c__law_name := ok__law_name (P := R_.prog) (w := w) (base := base) F__law_name  T  c__law_take c__law_words
  have c__law_is_name := ok__law_is_name (P := R_.prog) (w := w) (base := base) F__law_is_name  T  c__law_words
  have c__law_is_within := ok__law_is_within (P := R_.prog) (w := w) (base := base) F__law_is_within  T  
  have c__law_odd := ok__law_odd (P := R_.prog) (w := w) (base := base) F__law_odd  T  c__law_take
  have c__law_bent := (ok__law_bent (P := R_.prog) (w := w) (base := base) F__law_bent  T  c__law_take c__law_odd 5).mono (k := 8) (by decide)
  have c__law_names := ok__law_names (P := R_.prog) (w := w) (base := base) F__law_names  T  c__law_name
  have c__law_piece := ok__law_piece (P := R_.prog) (w := w) (base := base) F__law_piece  T  c__law_take
  have c__law_drawn := (ok__law_drawn (P := R_.prog) (w := w) (base := base) F__law_drawn  T  c__law_take c__law_piece 7).mono (k := 10) (by decide)
  have c__law_condition := ok__law_condition (P := R_.prog) (w := w) (base := base) F__law_condition  T  c__law_drawn c__law_take
  have c__law_pieces := (ok__law_pieces (P := R_.prog) (w := w) (base := base) F__law_pieces  T  c__law_is_name c__law_is_within 8).mono (k := 11) (by decide)
  have c__law_is_condition := ok__law_is_condition (P := R_.prog) (w := w) (base := base) F__law_is_condition  T  c__law_pieces
  have c__law_holds := (ok__law_holds (P := R_.prog) (w := w) (base := base) F__law_holds  T   7).mono (k := 8) (by decide)
  have c__law_taken := ok__law_taken (P := R_.prog) (w := w) (base := base) F__law_taken  T  c__law_take
  have c__law_folk := ok__law_folk (P := R_.prog) (w := w) (base := base) F__law_folk  T  c__law_take
  have c__law_told := ok__law_told (P := R_.prog) (w := w) (base := base) F__law_told  T  c_holds
  have c__law_asked_right := ok__law_asked_right (P := R_.prog) (w := w) (base := base) F__law_asked_right cg.sys T  c__law_take c__law_holds c__law_told
  exact ok_law T Fx F__law_word c__law_pot c__law_names c__law_condition c__law_folk c__law_taken c__law_asked_right c__law_odd c__law_bent c__law_is_condition c_holds (He.fAd K lawD) c Tb callerA [] s H E0 Z hr cg TB hZ
end K07

namespace K07
open PySem PySem.Spec PyProof.Rows L2 Dl
local macro_rules | `(tactic| decreasing_trivial_pre_omega) => `(tactic| (first | with_reducible refine s_seq ?_ | with_reducible refine s_if ?_ | with_reducible refine s_set ?_ | with_reducible refine s_setIx ?_ | with_reducible refine s_ret ?_ | with_reducible refine s_nil ?_ | with_reducible refine s_own ?_ | with_reducible refine s_par ?_ | with_reducible refine t_tst ?_ | with_reducible refine t_and ?_ | with_reducible refine t_or ?_ | with_reducible refine t_not ?_ | with_reducible refine t_yes ?_ | with_reducible refine e_op ?_ | with_reducible refine e_un ?_ | with_reducible refine e_chain ?_ | with_reducible refine e_b ?_ | with_reducible refine e_c ?_ | with_reducible refine e_l ?_ | with_reducible refine e_tup ?_ | with_reducible refine e_call ?_ | with_reducible refine e_and ?_ | with_reducible refine e_or ?_ | with_reducible refine e_not ?_ | with_reducible refine e_if ?_ | with_reducible refine e_sl ?_ | with_reducible refine o_n ?_ | with_reducible refine o_s ?_ | with_reducible refine a_nil ?_ | with_reducible refine a_cons ?_ | with_reducible refine f_lst ?_ | with_reducible refine f_call ?_ | with_reducible refine f_itA ?_ | with_reducible refine f_r1 ?_ | with_reducible refine r_seq ?_ | with_reducible refine n_add ?_ | with_reducible refine n_sub ?_ | with_reducible refine n_gt ?_ | with_reducible refine n_ge ?_ | with_reducible refine n_lt ?_ | with_reducible refine n_le ?_ | with_reducible refine e_var (by with_unfolding_all rfl) ?_ | with_reducible refine e_ixc (by with_unfolding_all rfl) ?_ | with_reducible refine e_callM (by with_unfolding_all rfl) ?_ | with_reducible refine s_frz (by with_unfolding_all rfl) ?_ | with_reducible refine s_app (by with_unfolding_all rfl) ?_ | refine Or.inl ⟨by first | with_reducible rfl | with_reducible exact Bool.not_false, ?_⟩ | refine Or.inr ⟨by first | with_reducible rfl | with_reducible exact Bool.not_true, ?_⟩ | refine Exists.intro _ (Exists.intro _ ⟨rfl, rfl, gd rfl ?_⟩) | refine Exists.intro _ ⟨rfl, ?_⟩))
local macro_rules | `(tactic| decreasing_trivial) => `(tactic| repeat decreasing_trivial_pre_omega)
/-- a pot of numbers after at most n takings -/
def Pot (n : Nat) (pd : List PyData) : Prop := ∃ a b c : Int, pd = [.int a, .int b, .int c] ∧ 0 ≤ a ∧ a < 10 ^ 600 ∧ 0 ≤ b ∧ b < 2 ^ 61 ∧ 0 ≤ c ∧ c ≤ n
theorem Pot.mono {n m : Nat} {pd : List PyData} (h : Pot n pd) (e : n ≤ m) : Pot m pd := by
  obtain ⟨a, b, c, e1, h1, h2, h3, h4, h5, h6⟩ := h
  exact ⟨a, b, c, e1, h1, h2, h3, h4, h5, by omega⟩
theorem take_ok {n : Nat} {pd : List PyData} {m : Int} (h : Pot n pd) (hn : n < 1000000) (hm : 1 ≤ m) (hM : m ≤ 10000000) :
    Gd (m__law_take pd [.int m]) fun q => ∃ r : Int, q.1 = .int r ∧ 0 ≤ r ∧ r < m ∧ Pot (n + 1) q.2 := by
  obtain ⟨a, b, c, rfl, h1, h2, h3, h4, h5, h6⟩ := h
  unfold m__law_take
  refine m_fnM rfl ?_
  unfold b__law_take
  decreasing_trivial
  by_cases pos : 0 < a
  · refine .inl ⟨decide_eq_true pos, ?_⟩
    decreasing_trivial
    refine n_mod (by omega) fun l1 l2 => ?_
    decreasing_trivial
    refine n_div (by omega) (by omega) ?_
    decreasing_trivial
    have q0 : 0 ≤ a / m := Int.ediv_nonneg h1 (by omega)
    have q1 : a / m ≤ a := Int.ediv_le_self m h1
    exact ⟨l1, l2, a / m, b, c, rfl, q0, Int.lt_of_le_of_lt q1 h2, h3, h4, h5, by omega⟩
  · refine .inr ⟨decide_eq_false pos, ?_⟩
    decreasing_trivial
    have e1 : (1 : Int) ≤ c + 1 ∧ c + 1 ≤ 1000000 := by omega
    refine n_mul 40 (by decide) (by decide) (by omega) (by omega) (by decide) (by decide) ?_
    decreasing_trivial
    refine n_pow (b := 3) 62 (by omega) (by omega) (by decide) (by decide) fun p => ?_
    decreasing_trivial
    refine n_mod (by decide) fun l1 l2 => ?_
    decreasing_trivial
    refine n_mod (by decide) fun l3 l4 => ?_
    decreasing_trivial
    refine n_mul 40 (by decide) (by decide) (by omega) (by omega) (by decide) (by decide) ?_
    decreasing_trivial
    refine n_pow (b := 5) 63 (by omega) (by omega) (by decide) (by decide) fun p => ?_
    decreasing_trivial
    refine n_mod (by decide) fun l1 l2 => ?_
    decreasing_trivial
    refine n_div (by decide) (by decide) ?_
    decreasing_trivial
    refine n_mod (by omega) fun l1 l2 => ?_
    decreasing_trivial
    exact ⟨l1, l2, a, b, c + 1, rfl, h1, h2, h3, h4, by omega, by omega⟩
theorem atI_map {ns : List Int} {k : Nat} (h : k < ns.length) : atI (ns.map PyData.int) (k : Int) = some (.int ns[k]) := by
  unfold atI
  have e : ixN (ns.map PyData.int).length (k : Int) = some k := by
    unfold ixN
    rw [List.length_map]
    split <;> rename_i c
    · simp [h]
    · omega
  rw [e]
  simp [List.getElem?_map, h]
theorem pot_ok {ns : List Int} {k : Nat} (hk : k < 100) : Gd (m__law_pot [.dict [(.none, .list (ns.map .int))], .int k]) fun pd => Pot 0 pd := by
  unfold m__law_pot
  refine m_fnF rfl ?_
  unfold b__law_pot
  have fin : ∀ x : Int, 0 ≤ x → x < 10 ^ 600 → Ge ((fLst (aCons (dOp gMul (dVar 2) (dB gInt1 (aCons (dOp gGe (dVar 2) (dOp gPow (dC (.int 10)) (dC (.int 18)))) aNil))) (aCons (dOp gMod (dOp gPow (dOp gAdd (dOp gAdd (dOp gMod (dVar 2) (dC (.int 2147483629))) (dOp gMul (dC (.int 7919)) (dVar 1))) (dC (.int 1))) (dC (.int 5))) (dC (.int 2305843009213693951))) (aCons (dC (.int 0)) aNil))))
      [.dat (.dict [(.none, .list (ns.map .int))]), .dat (.int k), .dat (.int x)]) fun d _ => Pot 0 d := by
    intro x h0 h1
    decreasing_trivial
    refine n_pow (b := 18) 4 (by decide) (by decide) (by decide) (by decide) fun _ => ?_
    decreasing_trivial
    have up : (10 : Int) ^ 600 < 2 ^ 2000 := by decide +kernel
    have lo := two_pos 2000
    have out : ∀ y : Int, (y = 0 ∨ y = 1) → Gd (gMul (.int x) (.int y)) fun d => ∃ z : Int, d = .int z ∧ 0 ≤ z ∧ z < 10 ^ 600 := fun y hy => by
      refine n_mul 2000 (by omega) (by omega) ?_ ?_ (by decide) (by decide) ?_
      · rcases hy with rfl | rfl <;> omega
      · have : (1 : Int) < 2 ^ 2000 := by decide +kernel
        rcases hy with rfl | rfl <;> omega
      · rcases hy with rfl | rfl
        · exact ⟨0, by rw [Int.mul_zero], by decide, by decide +kernel⟩
        · exact ⟨x, by rw [Int.mul_one], h0, h1⟩
    refine gd (a := .int (if decide ((10 : Int) ^ 18 ≤ x) = true then 1 else 0)) rfl ?_
    refine gd_mono (out _ (by split <;> simp)) fun d hd => ?_
    obtain ⟨z, rfl, z0, z1⟩ := hd
    decreasing_trivial
    refine n_mod (by decide) fun l1 l2 => ?_
    decreasing_trivial
    refine n_mul 40 (by decide) (by decide) (by omega) (by omega) (by decide) (by decide) ?_
    decreasing_trivial
    refine n_pow (b := 5) 40 (by omega) (by omega) (by decide) (by decide) fun _ => ?_
    decreasing_trivial
    refine n_mod (by decide) fun l3 l4 => ?_
    decreasing_trivial
    exact ⟨by show 3 ≤ _; decide, z, _, 0, rfl, z0, z1, l3, by omega, by decide, by decide⟩
  decreasing_trivial
  refine gd (a := .int ((ns.map PyData.int).length : Nat)) rfl ?_
  decreasing_trivial
  by_cases c : k < ns.length
  · refine .inl ⟨decide_eq_true (by rw [List.length_map]; omega), ?_⟩
    decreasing_trivial
    refine gd (atI_map c) ?_
    decreasing_trivial
    refine gd (a := .int (if ns[k] < 0 then -ns[k] else ns[k])) rfl ?_
    decreasing_trivial
    refine n_pow (b := 60) 4 (by decide) (by decide) (by decide) (by decide) fun _ => ?_
    decreasing_trivial
    refine n_pow (b := 10) 200 (by decide +kernel) (by decide +kernel) (by decide) (by decide) fun _ => ?_
    have e : ((10 : Int) ^ 60) ^ 10 = 10 ^ 600 := by decide +kernel
    rw [e]
    refine n_mod (by decide +kernel) fun l1 l2 => ?_
    repeat (first | exact fin _ l1 l2 | decreasing_trivial_pre_omega)
  · refine .inr ⟨decide_eq_false (by rw [List.length_map]; omega), ?_⟩
    repeat (first | exact fin 0 (by decide) (by decide +kernel) | decreasing_trivial_pre_omega)

/-! ### names -/
/-- data as the law draws it: at most k lists or tuples within one another, short texts, numbers that can be written -/
def Fit : Nat → PyData → Prop
  | _, .none => True
  | _, .bool _ => True
  | _, .int i => i.natAbs < 2 ^ 200
  | _, .str x => x.length ≤ 20 ∧ ∀ c ∈ x.cps.toList, c < 200
  | _, .dict kvs => kvs = []
  | 0, _ => False
  | k + 1, .list ds => ds.length ≤ 16 ∧ ∀ d ∈ ds, Fit k d
  | k + 1, .tuple ds => ds.length ≤ 16 ∧ ∀ d ∈ ds, Fit k d
def words : List PyData := [.str "ask", .str "pick", .str "some", .str "count", .str "if", .str "else", .str "end", .str "part", .str "leave", .str "each", .str "hard", .str "soft", .str "is", .str "has", .str "from", .str "to", .str "not", .str "and", .str "or", .str "any", .str "every"]
def letter (c : Nat) : Bool := decide (97 ≤ c) && decide (c ≤ 122)
def inWords (d : PyData) : Bool := words.any fun z => PyData.eqv z d
def nameB : PyData → Bool
  | .str x => (decide (1 ≤ x.length) && decide (x.length ≤ 8)) && (!inWords (.str x) && x.cps.toList.all letter)
  | _ => false
def letterD : PyData → PyData
  | .str z => .bool (letter (z.cps.getD 0 0))
  | _ => .none
theorem fit_ty {k : Nat} {d : PyData} (h : Fit k d) : ∃ a, tyD d = some a := by
  cases d with
  | dict kvs =>
    have e : kvs = [] := by cases k <;> exact h
    subst e
    exact ⟨_, rfl⟩
  | _ => exact ⟨_, rfl⟩
theorem in_words (x : Str) : gIn false (.str x) (.tuple words) = some (.bool (inWords (.str x))) := rfl
theorem in_words' (x : Str) : gIn false (.str x) (.list words) = some (.bool (inWords (.str x))) := rfl
theorem letters_range : (("abcdefghijklmnopqrstuvwxyz" : Str)).cps.toList = List.range' 97 26 := by decide +kernel
theorem in_letters (c : Nat) : gIn false (.str ⟨#[c]⟩) d_LETTERS = some (.bool (letter c)) := by
  have e : decide (c ∈ (("abcdefghijklmnopqrstuvwxyz" : Str)).cps.toList) = letter c := by
    rw [letters_range]
    unfold letter
    rw [← Bool.decide_and]
    refine decide_eq_decide.mpr ?_
    rw [List.mem_range'_1]
    omega
  rw [← e]
  rfl
theorem truths_map' : ∀ bs : List Bool, truths (bs.map .bool) = some bs
  | [] => rfl
  | b :: r => by rw [List.map_cons, truths, truths_map' r]; rfl
theorem is_name_ok {k : Nat} {d : PyData} (h : Fit k d) : Gd (m_is_name [d]) fun r => r = .bool (nameB d) := by
  unfold m_is_name
  refine m_fnP rfl ?_
  unfold b_is_name
  decreasing_trivial
  obtain ⟨a, ha⟩ := fit_ty h
  cases d with
  | str x =>
    have hx : x.length ≤ 20 := by cases k <;> exact h.1
    refine gd (a := .bool true) rfl ?_
    decreasing_trivial
    have len : gLen [.str x] = some (.int (x.length : Nat)) := by
      unfold gLen
      exact if_pos (Nat.le_trans hx (by decide))
    refine gd len ?_
    decreasing_trivial
    have fin : ∀ s : Sl, s = [.dat (.str x), .no] → 1 ≤ x.length → x.length ≤ 8 → inWords (.str x) = false → Gs (sRet (dB gAll (aCons (dL (fLc (itA (dVar 0)) 1 tYesD (dOp (gIn false) (dVar 1) (dC d_LETTERS)))) aNil)) s) (fun _ => PyData.none = .bool (nameB (.str x))) fun d _ => d = .bool (nameB (.str x)) := by
      intro s hs l1 l2 nw
      subst hs
      decreasing_trivial
      refine f_lc_pure (fun _ => true) letterD ?_
      decreasing_trivial
      refine .inr ⟨x, rfl, rfl, ?_, fun d hd => ?_, ?_⟩
      · unfold Dl.signs
        rw [List.length_map]
        have : x.cps.toList.length = x.length := by rw [Array.length_toList]; rfl
        rw [this]
        exact Nat.lt_of_le_of_lt hx (by decide)
      · unfold Dl.signs at hd
        obtain ⟨c, hc, rfl⟩ := List.mem_map.mp hd
        refine ⟨?_, fun _ => ?_⟩
        · decreasing_trivial
          exact ⟨rfl, rfl⟩
        · decreasing_trivial
          refine gd (in_letters c) ?_
          exact ⟨rfl, rfl⟩
      · decreasing_trivial
        have e : List.map letterD (List.filter (fun _ => true) (Dl.signs x)) = (x.cps.toList.map letter).map .bool := by
          unfold Dl.signs
          rw [List.filter_eq_self.mpr (fun _ _ => rfl), List.map_map, List.map_map]
          rfl
        rw [e]
        refine gd (a := .bool (x.cps.toList.all letter)) ?_ ?_
        · show Option.map _ (truths _) = _
          rw [truths_map']
          simp [List.all_map]
        · unfold nameB
          simp [l1, l2, nw]
    by_cases l1 : 1 ≤ x.length
    · refine .inl ⟨by simp; omega, ?_⟩
      decreasing_trivial
      by_cases l2 : x.length ≤ 8
      · refine .inr ⟨by simp; omega, ?_⟩
        decreasing_trivial
        refine gd (in_words x) ?_
        decreasing_trivial
        cases nw : inWords (.str x) with
        | true =>
          decreasing_trivial
          unfold nameB
          simp [nw]
        | false =>
          repeat (first | exact fin _ rfl l1 l2 nw | decreasing_trivial_pre_omega)
      · refine .inl ⟨by simp; omega, ?_⟩
        decreasing_trivial
        unfold nameB
        simp [l2]
    · refine .inr ⟨by simp; omega, ?_⟩
      decreasing_trivial
      unfold nameB
      simp [l1]
  | dict kvs =>
    have e : kvs = [] := by cases k <;> exact h
    subst e
    refine gd (a := .bool false) rfl ?_
    decreasing_trivial
    rfl
  | _ =>
    refine gd (a := .bool false) rfl ?_
    decreasing_trivial
    rfl

theorem words_ok : Gd (m__law_words []) fun r => r = .list words := by
  unfold m__law_words
  refine m_fnP rfl ?_
  unfold b__law_words
  decreasing_trivial
  exact ⟨by decide, rfl⟩
def oddD : PyData → Bool
  | .str z => !letter (z.cps.getD 0 0)
  | _ => false
theorem one_lt (a b : Nat) : ([a] < [b]) ↔ a < b := by simp [List.cons_lt_cons_iff]
theorem le_a (c : Nat) : gLe (.str "a") (.str ⟨#[c]⟩) = some (.bool (decide (97 ≤ c))) := by
  have e : (!decide ([c] < [97])) = decide (97 ≤ c) := by
    rw [← decide_not]
    exact decide_eq_decide.mpr ⟨fun q => by rw [one_lt] at q; omega, fun q => by rw [one_lt]; omega⟩
  rw [← e]
  rfl
theorem le_z (c : Nat) : gLe (.str ⟨#[c]⟩) (.str "z") = some (.bool (decide (c ≤ 122))) := by
  have e : (!decide ([122] < [c])) = decide (c ≤ 122) := by
    rw [← decide_not]
    exact decide_eq_decide.mpr ⟨fun q => by rw [one_lt] at q; omega, fun q => by rw [one_lt]; omega⟩
  rw [← e]
  rfl
theorem signs_eq (x : Str) : Dl.signs x = x.cps.toList.map fun c => .str ⟨#[c]⟩ := rfl
theorem sign_ok {c : Nat} (h : c < 200) : PyData.strOk ⟨#[c]⟩ = true := by
  unfold PyData.strOk
  simp
  omega
theorem signs_noDct : ∀ cs : List Nat, noDcts (cs.map fun c => PyData.str ⟨#[c]⟩) = true
  | [] => rfl
  | c :: r => by rw [List.map_cons, noDcts, signs_noDct r]; rfl
theorem signs_lay : ∀ cs : List Nat, (∀ c ∈ cs, c < 200) → PyData.canLayAll0 (cs.map fun c => PyData.str ⟨#[c]⟩) = true
  | [], _ => rfl
  | c :: r, h => by
    rw [List.map_cons, PyData.canLayAll0, signs_lay r fun d hd => h d (List.mem_cons_of_mem _ hd)]
    simp [PyData.canLay0, sign_ok (h c List.mem_cons_self)]
theorem signs_depth : ∀ cs : List Nat, PyData.depthAll (cs.map fun c => PyData.str ⟨#[c]⟩) ≤ 1
  | [] => by simp [PyData.depthAll]
  | c :: r => by
    rw [List.map_cons, PyData.depthAll]
    have := signs_depth r
    simp [PyData.depth]
    omega
theorem eq_none_left (cs : List Nat) (h : ∀ c ∈ cs, c < 200) : gEq (.list (cs.map fun c => .str ⟨#[c]⟩)) (.list []) = some (.bool cs.isEmpty) := by
  have d := signs_depth cs
  have sh : SeqAt.shaped (.list (cs.map fun c => .str ⟨#[c]⟩)) = true := by
    unfold SeqAt.shaped
    rw [PyData.canLay0, signs_lay cs h, PyData.depth, Bool.true_and]
    exact decide_eq_true (by omega)
  have e : PyData.eqv (.list (cs.map fun c => .str ⟨#[c]⟩)) (.list []) = cs.isEmpty := by
    cases cs <;> rfl
  unfold gEq
  rw [if_neg (by simp [isStrD]), if_pos ⟨⟨by simp only [noDct]; exact signs_noDct cs, rfl⟩, sh, by decide⟩, e]

theorem law_is_name_ok {k : Nat} {d : PyData} (h : Fit k d) : Gd (m__law_is_name [d]) fun r => r = .bool (nameB d) := by
  unfold m__law_is_name
  refine m_fnP rfl ?_
  unfold b__law_is_name
  decreasing_trivial
  cases d with
  | str x =>
    have hx : x.length ≤ 20 ∧ ∀ c ∈ x.cps.toList, c < 200 := by cases k <;> exact h
    refine gd (a := .bool true) rfl ?_
    decreasing_trivial
    have len : gLen [.str x] = some (.int (x.length : Nat)) := by
      unfold gLen
      exact if_pos (Nat.le_trans hx.1 (by decide))
    refine gd len ?_
    decreasing_trivial
    have fin : ∀ s : Sl, s = [.dat (.str x), .no] → 1 ≤ x.length → x.length ≤ 8 → inWords (.str x) = false →
        Gs (sRet (dOp gEq (dL (fLc (itA (dVar 0)) 1 (dNotT (dTst (dChain gLe gLe (dC (.str "a")) (dVar 1) (dC (.str "z"))))) (dVar 1))) (dL (fLst aNil))) s) (fun _ => PyData.none = .bool (nameB (.str x))) fun d _ => d = .bool (nameB (.str x)) := by
      intro s hs l1 l2 nw
      subst hs
      decreasing_trivial
      refine f_lc_pure oddD id ?_
      decreasing_trivial
      refine .inr ⟨x, rfl, rfl, ?_, fun d hd => ?_, ?_⟩
      · rw [signs_eq, List.length_map]
        have : x.cps.toList.length = x.length := by rw [Array.length_toList]; rfl
        rw [this]
        exact Nat.lt_of_le_of_lt hx.1 (by decide)
      · rw [signs_eq] at hd
        obtain ⟨c, hc, rfl⟩ := List.mem_map.mp hd
        have o : oddD (.str ⟨#[c]⟩) = !letter c := rfl
        refine ⟨?_, fun _ => ?_⟩
        · decreasing_trivial
          refine gd (le_a c) ?_
          by_cases l : 97 ≤ c
          · refine .inl ⟨by rw [decide_eq_true l], ?_⟩
            decreasing_trivial
            refine gd (le_z c) ?_
            decreasing_trivial
            refine ⟨?_, rfl⟩
            rw [o]
            unfold letter
            simp [l]
          · refine .inr ⟨by rw [decide_eq_false l], ?_⟩
            decreasing_trivial
            refine ⟨?_, rfl⟩
            rw [o]
            unfold letter
            simp [l]
        · decreasing_trivial
          exact ⟨rfl, rfl⟩
      · decreasing_trivial
        refine ⟨by decide, ?_⟩
        have e : List.map id (List.filter oddD (Dl.signs x)) = (x.cps.toList.filter fun c => !letter c).map fun c => .str ⟨#[c]⟩ := by
          rw [List.map_id, signs_eq, List.filter_map]
          rfl
        rw [e]
        refine gd (eq_none_left _ fun c hc => hx.2 c (List.mem_filter.mp hc).1) ?_
        unfold nameB
        have q : (x.cps.toList.filter fun c => !letter c).isEmpty = x.cps.toList.all letter := by
          rw [Bool.eq_iff_iff, List.isEmpty_iff, List.filter_eq_nil_iff, List.all_eq_true]
          simp
        simp [l1, l2, nw, q]
    by_cases l1 : 1 ≤ x.length
    · refine .inl ⟨by simp; omega, ?_⟩
      decreasing_trivial
      by_cases l2 : x.length ≤ 8
      · refine .inr ⟨by simp; omega, ?_⟩
        decreasing_trivial
        refine gd_mono words_ok fun r hr => ?_
        subst hr
        decreasing_trivial
        refine gd (in_words' x) ?_
        decreasing_trivial
        cases nw : inWords (.str x) with
        | true =>
          decreasing_trivial
          unfold nameB
          simp [nw]
        | false =>
          repeat (first | exact fin _ rfl l1 l2 nw | decreasing_trivial_pre_omega)
      · refine .inl ⟨by simp; omega, ?_⟩
        decreasing_trivial
        unfold nameB
        simp [l2]
    · refine .inr ⟨by simp; omega, ?_⟩
      decreasing_trivial
      unfold nameB
      simp [l1]
  | dict kvs =>
    have e : kvs = [] := by cases k <;> exact h
    subst e
    refine gd (a := .bool false) rfl ?_
    decreasing_trivial
    rfl
  | _ =>
    refine gd (a := .bool false) rfl ?_
    decreasing_trivial
    rfl
/-! ### whole numbers -/
def wholeB (lo hi : Int) : PyData → Bool
  | .int i => decide (lo ≤ i) && decide (i ≤ hi)
  | _ => false
theorem is_number_ok {k : Nat} {d : PyData} (h : Fit k d) : Gd (m_is_number [d]) fun r => r = .bool (wholeB 0 1000000 d) := by
  unfold m_is_number
  refine m_fnP rfl ?_
  unfold b_is_number
  decreasing_trivial
  have whole : Gd (m_is_whole [d]) fun r => r = .bool (match d with | .int _ => true | _ => false) := by
    unfold m_is_whole
    refine m_fnP rfl ?_
    unfold b_is_whole
    decreasing_trivial
    cases d with
    | int i =>
      refine gd (a := .bool true) rfl ?_
      decreasing_trivial
      refine gd (a := .bool false) rfl ?_
      decreasing_trivial
      rfl
    | bool b =>
      refine gd (a := .bool true) rfl ?_
      decreasing_trivial
      refine gd (a := .bool true) rfl ?_
      decreasing_trivial
      rfl
    | dict kvs =>
      have e : kvs = [] := by cases k <;> exact h
      subst e
      refine gd (a := .bool false) rfl ?_
      decreasing_trivial
      rfl
    | _ =>
      refine gd (a := .bool false) rfl ?_
      decreasing_trivial
      rfl
  refine gd_mono whole fun r hr => ?_
  subst hr
  cases d with
  | int i =>
    decreasing_trivial
    by_cases l : 0 ≤ i
    · refine .inl ⟨by rw [decide_eq_true l], ?_⟩
      decreasing_trivial
      unfold wholeB
      simp [l]
    · refine .inr ⟨by rw [decide_eq_false l], ?_⟩
      decreasing_trivial
      unfold wholeB
      simp [l]
  | _ =>
    decreasing_trivial
    rfl
theorem within_ok {k : Nat} {d : PyData} (h : Fit k d) (lo hi : Int) : Gd (m__law_is_within [d, .int lo, .int hi]) fun r => r = .bool (wholeB lo hi d) := by
  unfold m__law_is_within
  refine m_fnP rfl ?_
  unfold b__law_is_within
  decreasing_trivial
  cases d with
  | int i =>
    refine gd (a := .bool true) rfl ?_
    decreasing_trivial
    refine gd (a := .bool false) rfl ?_
    decreasing_trivial
    by_cases l : lo ≤ i
    · refine .inl ⟨by rw [decide_eq_true l], ?_⟩
      decreasing_trivial
      unfold wholeB
      simp [l]
    · refine .inr ⟨by rw [decide_eq_false l], ?_⟩
      decreasing_trivial
      unfold wholeB
      simp [l]
  | bool b =>
    refine gd (a := .bool true) rfl ?_
    decreasing_trivial
    refine gd (a := .bool true) rfl ?_
    decreasing_trivial
    rfl
  | dict kvs =>
    have e : kvs = [] := by cases k <;> exact h
    subst e
    refine gd (a := .bool false) rfl ?_
    decreasing_trivial
    rfl
  | _ =>
    refine gd (a := .bool false) rfl ?_
    decreasing_trivial
    rfl

end K07

namespace K07
open PySem PySem.Spec PyProof.Rows L2 Dl
local macro_rules | `(tactic| decreasing_trivial_pre_omega) => `(tactic| (first | with_reducible refine s_seq ?_ | with_reducible refine s_if ?_ | with_reducible refine s_set ?_ | with_reducible refine s_setIx ?_ | with_reducible refine s_ret ?_ | with_reducible refine s_nil ?_ | with_reducible refine s_own ?_ | with_reducible refine s_par ?_ | with_reducible refine t_tst ?_ | with_reducible refine t_and ?_ | with_reducible refine t_or ?_ | with_reducible refine t_not ?_ | with_reducible refine t_yes ?_ | with_reducible refine e_op ?_ | with_reducible refine e_un ?_ | with_reducible refine e_chain ?_ | with_reducible refine e_b ?_ | with_reducible refine e_c ?_ | with_reducible refine e_l ?_ | with_reducible refine e_tup ?_ | with_reducible refine e_call ?_ | with_reducible refine e_and ?_ | with_reducible refine e_or ?_ | with_reducible refine e_not ?_ | with_reducible refine e_if ?_ | with_reducible refine e_sl ?_ | with_reducible refine o_n ?_ | with_reducible refine o_s ?_ | with_reducible refine a_nil ?_ | with_reducible refine a_cons ?_ | with_reducible refine f_lst ?_ | with_reducible refine f_call ?_ | with_reducible refine f_itA ?_ | with_reducible refine f_r1 ?_ | with_reducible refine r_seq ?_ | with_reducible refine n_add ?_ | with_reducible refine n_sub ?_ | with_reducible refine n_gt ?_ | with_reducible refine n_ge ?_ | with_reducible refine n_lt ?_ | with_reducible refine n_le ?_ | with_reducible refine e_var (by with_unfolding_all rfl) ?_ | with_reducible refine e_ixc (by with_unfolding_all rfl) ?_ | with_reducible refine e_callM (by with_unfolding_all rfl) ?_ | with_reducible refine s_frz (by with_unfolding_all rfl) ?_ | with_reducible refine s_app (by with_unfolding_all rfl) ?_ | refine Or.inl ⟨by first | with_reducible rfl | with_reducible exact Bool.not_false, ?_⟩ | refine Or.inr ⟨by first | with_reducible rfl | with_reducible exact Bool.not_true, ?_⟩ | refine Exists.intro _ (Exists.intro _ ⟨rfl, rfl, gd rfl ?_⟩) | refine Exists.intro _ ⟨rfl, ?_⟩))
local macro_rules | `(tactic| decreasing_trivial) => `(tactic| repeat decreasing_trivial_pre_omega)
theorem at_0 (a : PyData) (r : List PyData) : gIx (.tuple (a :: r)) (.int 0) = some a := by
  show atI (a :: r) 0 = some a
  unfold atI ixN
  simp
theorem at_1 (a b : PyData) (r : List PyData) : gIx (.tuple (a :: b :: r)) (.int 1) = some b := by
  show atI (a :: b :: r) 1 = some b
  unfold atI ixN
  rw [if_pos (by decide), if_pos (by simp only [List.length_cons]; omega)]
  rfl
theorem at_2 (a b c : PyData) (r : List PyData) : gIx (.tuple (a :: b :: c :: r)) (.int 2) = some c := by
  show atI (a :: b :: c :: r) 2 = some c
  unfold atI ixN
  rw [if_pos (by decide), if_pos (by simp only [List.length_cons]; omega)]
  rfl
theorem fit_mem {k : Nat} {ds : List PyData} (h : Fit k (.tuple ds)) : ds.length ≤ 16 ∧ ∃ j, ∀ d ∈ ds, Fit j d := by
  cases k with
  | zero => exact h.elim
  | succ j => exact ⟨h.1, j, h.2⟩
theorem eq_int (a b : Int) : gEq (.int a) (.int b) = some (.bool (a == b)) := rfl
theorem ne_int (a b : Int) : gNe (.int a) (.int b) = some (.bool (!(a == b))) := rfl
theorem notin_23 (n : Int) : gIn true (.int n) (.tuple [.int 2, .int 3]) = some (.bool (!(2 == n || (3 == n || false)))) := rfl
/-- is a one of the texts zs -/
def isOf (zs : List PyData) (a : PyData) : Bool := zs.any fun z => PyData.eqv z a
def isHas : List PyData := [.str "is", .str "has"]
def fromTo : List PyData := [.str "from", .str "to"]
def pieces4 : List PyData := [.str "is", .str "has", .str "from", .str "to"]
def groups2 : List PyData := [.str "and", .str "or"]
def rounds2 : List PyData := [.str "any", .str "every"]
def bonds3 : List PyData := [.str "not", .str "and", .str "or"]
theorem fit_cases {k : Nat} {a : PyData} (h : Fit k a) {p : PyData → Prop} (hd : p (.dict [])) (ho : (∀ kvs, a ≠ .dict kvs) → p a) : p a := by
  cases a with
  | dict kvs =>
    have e : kvs = [] := by cases k <;> exact h
    subst e
    exact hd
  | _ => exact ho (fun _ e => by cases e)
theorem in_isHas {k : Nat} {a : PyData} (h : Fit k a) : gIn false a (.tuple isHas) = some (.bool (isOf isHas a)) := by
  refine fit_cases (p := fun a => gIn false a (.tuple isHas) = some (.bool (isOf isHas a))) h rfl fun ho => ?_
  cases a with
  | dict kvs => exact absurd rfl (ho kvs)
  | _ => rfl
theorem in_fromTo {k : Nat} {a : PyData} (h : Fit k a) : gIn false a (.tuple fromTo) = some (.bool (isOf fromTo a)) := by
  refine fit_cases (p := fun a => gIn false a (.tuple fromTo) = some (.bool (isOf fromTo a))) h rfl fun ho => ?_
  cases a with
  | dict kvs => exact absurd rfl (ho kvs)
  | _ => rfl
theorem in_pieces {k : Nat} {a : PyData} (h : Fit k a) : gIn false a (.tuple pieces4) = some (.bool (isOf pieces4 a)) := by
  refine fit_cases (p := fun a => gIn false a (.tuple pieces4) = some (.bool (isOf pieces4 a))) h rfl fun ho => ?_
  cases a with
  | dict kvs => exact absurd rfl (ho kvs)
  | _ => rfl
theorem in_groups {k : Nat} {a : PyData} (h : Fit k a) : gIn false a (.tuple groups2) = some (.bool (isOf groups2 a)) := by
  refine fit_cases (p := fun a => gIn false a (.tuple groups2) = some (.bool (isOf groups2 a))) h rfl fun ho => ?_
  cases a with
  | dict kvs => exact absurd rfl (ho kvs)
  | _ => rfl
theorem in_rounds {k : Nat} {a : PyData} (h : Fit k a) : gIn false a (.tuple rounds2) = some (.bool (isOf rounds2 a)) := by
  refine fit_cases (p := fun a => gIn false a (.tuple rounds2) = some (.bool (isOf rounds2 a))) h rfl fun ho => ?_
  cases a with
  | dict kvs => exact absurd rfl (ho kvs)
  | _ => rfl
theorem notin_bonds {k : Nat} {a : PyData} (h : Fit k a) : gIn true a (.tuple bonds3) = some (.bool (!isOf bonds3 a)) := by
  refine fit_cases (p := fun a => gIn true a (.tuple bonds3) = some (.bool (!isOf bonds3 a))) h rfl fun ho => ?_
  cases a with
  | dict kvs => exact absurd rfl (ho kvs)
  | _ => rfl
def isNot (a : PyData) : Bool := PyData.eqv a (.str "not")
theorem eq_not {k : Nat} {a : PyData} (h : Fit k a) : gEq a (.str "not") = some (.bool (isNot a)) := by
  refine fit_cases (p := fun a => gEq a (.str "not") = some (.bool (isNot a))) h rfl fun ho => ?_
  cases a with
  | dict kvs => exact absurd rfl (ho kvs)
  | _ => rfl
/-! ### how many pieces a thing has -/
def pieceB (a b c : PyData) : Bool := if isOf isHas a = true then nameB b && nameB c else nameB b && wholeB 0 1000000 c
def grp (cs : List Int) : Int := if cs.all (fun c => decide (0 < c)) = true then cs.sum else 0
def groupOf (f : PyData → Int) : PyData → Int
  | .tuple ps => if 2 ≤ ps.length ∧ ps.length ≤ 6 then grp (ps.map f) else 0
  | _ => 0
theorem groupOf_tup (f : PyData → Int) (ps : List PyData) : groupOf f (.tuple ps) = if 2 ≤ ps.length ∧ ps.length ≤ 6 then grp (ps.map f) else 0 := rfl
def cnt : Nat → Bool → PyData → Int
  | 0, _, _ => 0
  | r + 1, w, .tuple [a, b] => if isNot a = true then cnt r w b else if isOf groups2 a = true then groupOf (cnt r w) b else 0
  | r + 1, w, .tuple [a, b, c] => if isOf pieces4 a = true then (if pieceB a b c = true then 1 else 0) else if (isOf rounds2 a && (!w && nameB b)) = true then cnt r true c else 0
  | _, _, _ => 0
theorem piece_ok {k : Nat} {a b c : PyData} (fa : Fit k a) (fb : Fit k b) (fc : Fit k c) : Gd (m__is_piece [.tuple [a, b, c]]) fun r => r = .bool (pieceB a b c) := by
  unfold m__is_piece
  refine m_fnP rfl ?_
  unfold b__is_piece
  refine s_seq ?_
  refine s_asg ?_
  decreasing_trivial
  refine gd rfl ?_
  decreasing_trivial
  refine ⟨by decide, ?_⟩
  refine gd (in_isHas fa) ?_
  decreasing_trivial
  cases t : isOf isHas a with
  | true =>
    decreasing_trivial
    refine gd_mono (is_name_ok fb) fun r hr => ?_
    subst hr
    refine ⟨_, rfl, ?_⟩
    cases nb : nameB b with
    | true =>
      decreasing_trivial
      refine gd_mono (is_name_ok fc) fun r hr => ?_
      subst hr
      unfold pieceB
      simp [t, nb]
    | false =>
      decreasing_trivial
      unfold pieceB
      simp [t, nb]
  | false =>
    decreasing_trivial
    refine gd_mono (is_name_ok fb) fun r hr => ?_
    subst hr
    refine ⟨_, rfl, ?_⟩
    cases nb : nameB b with
    | true =>
      decreasing_trivial
      refine gd_mono (is_number_ok fc) fun r hr => ?_
      subst hr
      unfold pieceB
      simp [t, nb]
    | false =>
      decreasing_trivial
      unfold pieceB
      simp [t, nb]
theorem ints_map : ∀ ns : List Int, intsD (ns.map .int) = some ns
  | [] => rfl
  | n :: r => by rw [List.map_cons, intsD, ints_map r]; rfl
theorem least_pos (r : List Int) (m : Int) : (0 < least r m) ↔ ((m :: r).all (fun c => decide (0 < c)) = true) := by
  obtain ⟨h1, h2⟩ := least_le r m
  rw [List.all_eq_true]
  constructor
  · intro h c hc
    rcases List.mem_cons.mp hc with rfl | q
    · exact decide_eq_true (by omega)
    · exact decide_eq_true (by have := h2 c q; omega)
  · intro h
    rcases least_mem r m with z | z
    · rw [z]; exact of_decide_eq_true (h m List.mem_cons_self)
    · exact of_decide_eq_true (h _ (List.mem_cons_of_mem _ z))
theorem group_ok {self : List PyData → Option PyData} {k r : Nat} {w : Bool} {d : PyData} (fd : Fit k d) (ih : ∀ (j : Nat) (e : PyData), Fit j e → Gd (self [e, .int (r : Nat), .bool w]) fun q => q = .int (cnt r w e)) :
    Gd (i__count_group self [d, .int (r : Nat), .bool w]) fun q => q = .int (groupOf (cnt r w) d) := by
  unfold i__count_group
  refine m_fnP rfl ?_
  unfold b__count_group
  decreasing_trivial
  cases d with
  | tuple ps =>
    obtain ⟨few, j, fits⟩ := fit_mem fd
    refine gd (a := .bool true) rfl ?_
    decreasing_trivial
    refine gd (a := .int (ps.length : Nat)) rfl ?_
    decreasing_trivial
    by_cases l1 : 2 ≤ ps.length
    · refine .inl ⟨by simp; omega, ?_⟩
      decreasing_trivial
      by_cases l2 : ps.length ≤ 6
      · refine .inr ⟨by simp; omega, ?_⟩
        decreasing_trivial
        refine f_lc_pure (fun _ => true) (fun d => .int (cnt r w d)) ?_
        decreasing_trivial
        refine .inl ⟨ps, .inr rfl, rfl, Nat.lt_of_le_of_lt few (by decide), fun d hd => ⟨?_, fun _ => ?_⟩, ?_⟩
        · decreasing_trivial
          exact ⟨rfl, rfl⟩
        · decreasing_trivial
          refine gd_mono (ih j d (fits d hd)) fun q hq => ?_
          exact ⟨hq, rfl⟩
        · rw [List.filter_eq_self.mpr (fun _ _ => rfl)]
          have e : (ps.map fun d => PyData.int (cnt r w d)) = (ps.map (cnt r w)).map .int := by rw [List.map_map]; rfl
          rw [e]
          have lm : (ps.map (cnt r w)).length = ps.length := List.length_map ..
          rw [groupOf_tup, if_pos ⟨l1, l2⟩]
          generalize hcs : ps.map (cnt r w) = cs at *
          decreasing_trivial
          cases cs with
          | nil => rw [← lm] at l1; simp at l1
          | cons n ns =>
            refine gd (a := .int (least ns n)) (by show (intsD _).bind _ = _; rw [ints_map]; rfl) ?_
            decreasing_trivial
            by_cases p : 0 < least ns n
            · refine .inl ⟨decide_eq_true p, ?_⟩
              decreasing_trivial
              refine gd (a := .int (n :: ns).sum) (by show Option.map _ (intsD _) = _; rw [ints_map]; rfl) ?_
              unfold grp
              rw [if_pos ((least_pos ns n).mp p)]
            · refine .inr ⟨decide_eq_false p, ?_⟩
              decreasing_trivial
              unfold grp
              rw [if_neg (fun z => p ((least_pos ns n).mpr z))]
      · refine .inl ⟨by simp; omega, ?_⟩
        decreasing_trivial
        rw [groupOf_tup, if_neg (fun z => l2 z.2)]
    · refine .inr ⟨by simp; omega, ?_⟩
      decreasing_trivial
      rw [groupOf_tup, if_neg (fun z => l1 z.1)]
  | dict kvs =>
    have e : kvs = [] := by cases k <;> exact fd
    subst e
    refine gd (a := .bool false) rfl ?_
    decreasing_trivial
    rfl
  | _ =>
    refine gd (a := .bool false) rfl ?_
    decreasing_trivial
    rfl
end K07

namespace K07
open PySem PySem.Spec PyProof.Rows L2 Dl
local macro_rules | `(tactic| decreasing_trivial_pre_omega) => `(tactic| (first | with_reducible refine s_seq ?_ | with_reducible refine s_if ?_ | with_reducible refine s_set ?_ | with_reducible refine s_setIx ?_ | with_reducible refine s_ret ?_ | with_reducible refine s_nil ?_ | with_reducible refine s_own ?_ | with_reducible refine s_par ?_ | with_reducible refine t_tst ?_ | with_reducible refine t_and ?_ | with_reducible refine t_or ?_ | with_reducible refine t_not ?_ | with_reducible refine t_yes ?_ | with_reducible refine e_op ?_ | with_reducible refine e_un ?_ | with_reducible refine e_chain ?_ | with_reducible refine e_b ?_ | with_reducible refine e_c ?_ | with_reducible refine e_l ?_ | with_reducible refine e_tup ?_ | with_reducible refine e_call ?_ | with_reducible refine e_and ?_ | with_reducible refine e_or ?_ | with_reducible refine e_not ?_ | with_reducible refine e_if ?_ | with_reducible refine e_sl ?_ | with_reducible refine o_n ?_ | with_reducible refine o_s ?_ | with_reducible refine a_nil ?_ | with_reducible refine a_cons ?_ | with_reducible refine f_lst ?_ | with_reducible refine f_call ?_ | with_reducible refine f_itA ?_ | with_reducible refine f_r1 ?_ | with_reducible refine r_seq ?_ | with_reducible refine n_add ?_ | with_reducible refine n_sub ?_ | with_reducible refine n_gt ?_ | with_reducible refine n_ge ?_ | with_reducible refine n_lt ?_ | with_reducible refine n_le ?_ | with_reducible refine e_var (by with_unfolding_all rfl) ?_ | with_reducible refine e_ixc (by with_unfolding_all rfl) ?_ | with_reducible refine e_callM (by with_unfolding_all rfl) ?_ | with_reducible refine s_frz (by with_unfolding_all rfl) ?_ | with_reducible refine s_app (by with_unfolding_all rfl) ?_ | refine Or.inl ⟨by first | with_reducible rfl | with_reducible exact Bool.not_false, ?_⟩ | refine Or.inr ⟨by first | with_reducible rfl | with_reducible exact Bool.not_true, ?_⟩ | refine Exists.intro _ (Exists.intro _ ⟨rfl, rfl, gd rfl ?_⟩) | refine Exists.intro _ ⟨rfl, ?_⟩))
local macro_rules | `(tactic| decreasing_trivial) => `(tactic| repeat decreasing_trivial_pre_omega)
theorem count_ok : ∀ (r fuel k : Nat) (w : Bool) (d : PyData), r < fuel → Fit k d → Gd (m__count_pieces fuel [d, .int (r : Nat), .bool w]) fun q => q = .int (cnt r w d) := by
  intro r
  induction r with
  | zero =>
    intro fuel k w d hf fd
    obtain ⟨n, rfl⟩ : ∃ n, fuel = n + 1 := ⟨fuel - 1, by omega⟩
    show Gd (fnP _ _ (b__count_pieces (m__count_pieces n)) _) _
    refine m_fnP rfl ?_
    unfold b__count_pieces
    decreasing_trivial
    refine gd (eq_int _ _) ?_
    decreasing_trivial
    refine .inl ⟨rfl, ?_⟩
    decreasing_trivial
    cases d <;> rfl
  | succ r ih =>
    intro fuel k w d hf fd
    obtain ⟨n, rfl⟩ : ∃ n, fuel = n + 1 := ⟨fuel - 1, by omega⟩
    have hn : r < n := by omega
    have dec : ((r + 1 : Nat) : Int) - 1 = (r : Int) := by omega
    show Gd (fnP _ _ (b__count_pieces (m__count_pieces n)) _) _
    refine m_fnP rfl ?_
    unfold b__count_pieces
    decreasing_trivial
    refine gd (eq_int _ _) ?_
    have nz : (((r + 1 : Nat) : Int) == 0) = false := beq_eq_false_iff_ne.mpr (by omega)
    rw [nz]
    decreasing_trivial
    cases d with
    | tuple ds =>
      obtain ⟨few, j, fits⟩ := fit_mem fd
      refine gd (a := .bool true) rfl ?_
      decreasing_trivial
      refine gd (a := .int (ds.length : Nat)) rfl ?_
      decreasing_trivial
      refine ⟨by decide, ?_⟩
      refine gd (notin_23 _) ?_
      decreasing_trivial
      match ds, fits with
      | [], _ =>
        refine .inl ⟨rfl, ?_⟩
        decreasing_trivial
        rfl
      | [a], _ =>
        refine .inl ⟨rfl, ?_⟩
        decreasing_trivial
        rfl
      | a :: b :: c :: d :: t, _ =>
        refine .inl ⟨?_, ?_⟩
        · simp only [List.length_cons]
          simp
          omega
        · decreasing_trivial
          rfl
      | [a, b], fits =>
        have fa := fits a (by simp)
        have fb := fits b (by simp)
        refine .inr ⟨rfl, ?_⟩
        decreasing_trivial
        refine gd (a := .int 2) rfl ?_
        decreasing_trivial
        refine gd (eq_int _ _) ?_
        decreasing_trivial
        refine .inl ⟨rfl, ?_⟩
        decreasing_trivial
        refine gd (at_0 _ _) ?_
        decreasing_trivial
        refine gd (eq_not fa) ?_
        decreasing_trivial
        have e0 : cnt (r + 1) w (.tuple [a, b]) = if isNot a = true then cnt r w b else if isOf groups2 a = true then groupOf (cnt r w) b else 0 := rfl
        cases t : isNot a with
        | true =>
          decreasing_trivial
          refine gd (at_1 _ _ _) ?_
          decreasing_trivial
          rw [dec]
          refine gd_mono (ih n j w b hn fb) fun q hq => ?_
          rw [hq, e0, if_pos t]
        | false =>
          decreasing_trivial
          refine gd (a := .int 2) rfl ?_
          decreasing_trivial
          refine gd (eq_int _ _) ?_
          decreasing_trivial
          refine .inl ⟨rfl, ?_⟩
          decreasing_trivial
          refine gd (at_0 _ _) ?_
          decreasing_trivial
          refine gd (in_groups fa) ?_
          decreasing_trivial
          have nt : ¬ isNot a = true := by rw [t]; exact Bool.false_ne_true
          cases u : isOf groups2 a with
          | true =>
            decreasing_trivial
            refine gd (at_1 _ _ _) ?_
            decreasing_trivial
            rw [dec]
            refine gd_mono (group_ok fb fun j e fe => ih n j w e hn fe) fun q hq => ?_
            rw [hq, e0, if_neg nt, if_pos u]
          | false =>
            decreasing_trivial
            refine gd (a := .int 2) rfl ?_
            decreasing_trivial
            refine gd (eq_int _ _) ?_
            decreasing_trivial
            refine .inr ⟨rfl, ?_⟩
            decreasing_trivial
            refine gd (a := .int 2) rfl ?_
            decreasing_trivial
            refine gd (eq_int _ _) ?_
            decreasing_trivial
            refine .inr ⟨rfl, ?_⟩
            decreasing_trivial
            rw [e0, if_neg nt, if_neg (by rw [u]; exact Bool.false_ne_true)]
      | [a, b, c], fits =>
        have fa := fits a (by simp)
        have fb := fits b (by simp)
        have fc := fits c (by simp)
        have e0 : cnt (r + 1) w (.tuple [a, b, c]) = if isOf pieces4 a = true then (if pieceB a b c = true then 1 else 0) else if (isOf rounds2 a && (!w && nameB b)) = true then cnt r true c else 0 := rfl
        refine .inr ⟨rfl, ?_⟩
        decreasing_trivial
        refine gd (a := .int 3) rfl ?_
        decreasing_trivial
        refine gd (eq_int _ _) ?_
        decreasing_trivial
        refine .inr ⟨rfl, ?_⟩
        decreasing_trivial
        refine gd (a := .int 3) rfl ?_
        decreasing_trivial
        refine gd (eq_int _ _) ?_
        decreasing_trivial
        refine .inr ⟨rfl, ?_⟩
        decreasing_trivial
        refine gd (a := .int 3) rfl ?_
        decreasing_trivial
        refine gd (eq_int _ _) ?_
        decreasing_trivial
        refine .inl ⟨rfl, ?_⟩
        decreasing_trivial
        refine gd (at_0 _ _) ?_
        decreasing_trivial
        refine gd (in_pieces fa) ?_
        decreasing_trivial
        cases t : isOf pieces4 a with
        | true =>
          decreasing_trivial
          refine gd_mono (piece_ok fa fb fc) fun q hq => ?_
          subst hq
          decreasing_trivial
          cases u : pieceB a b c with
          | true =>
            decreasing_trivial
            rw [e0, if_pos t, if_pos u]
          | false =>
            decreasing_trivial
            rw [e0, if_pos t, if_neg (by rw [u]; exact Bool.false_ne_true)]
        | false =>
          have nt : ¬ isOf pieces4 a = true := by rw [t]; exact Bool.false_ne_true
          rw [e0, if_neg nt]
          decreasing_trivial
          refine gd (a := .int 3) rfl ?_
          decreasing_trivial
          refine gd (eq_int _ _) ?_
          decreasing_trivial
          refine .inl ⟨rfl, ?_⟩
          decreasing_trivial
          refine gd (at_0 _ _) ?_
          decreasing_trivial
          refine gd (in_rounds fa) ?_
          decreasing_trivial
          cases u : isOf rounds2 a with
          | false =>
            decreasing_trivial
            rfl
          | true =>
            decreasing_trivial
            cases w with
            | true =>
              decreasing_trivial
              rfl
            | false =>
              decreasing_trivial
              refine gd (at_1 _ _ _) ?_
              decreasing_trivial
              refine gd_mono (is_name_ok fb) fun q hq => ?_
              subst hq
              decreasing_trivial
              cases v : nameB b with
              | false =>
                decreasing_trivial
                rfl
              | true =>
                decreasing_trivial
                refine gd (at_2 _ _ _ _) ?_
                decreasing_trivial
                rw [dec]
                refine gd_mono (ih n j true c hn fc) fun q hq => ?_
                rw [hq]
                rfl
    | dict kvs =>
      have e : kvs = [] := by cases k <;> exact fd
      subst e
      refine gd (a := .bool false) rfl ?_
      decreasing_trivial
      rfl
    | _ =>
      refine gd (a := .bool false) rfl ?_
      decreasing_trivial
      rfl
theorem is_condition_ok {k : Nat} {d : PyData} (fd : Fit k d) : Gd (m_is_condition [d]) fun q => q = .bool (decide (1 ≤ cnt 6 false d) && decide (cnt 6 false d ≤ 30)) := by
  unfold m_is_condition
  refine m_fnP rfl ?_
  unfold b_is_condition
  decreasing_trivial
  refine gd_mono (count_ok 6 8 k false d (by decide) fd) fun q hq => ?_
  subst hq
  decreasing_trivial
  by_cases l : 1 ≤ cnt 6 false d
  · refine .inl ⟨by rw [decide_eq_true l], ?_⟩
    decreasing_trivial
    simp [l]
  · refine .inr ⟨by rw [decide_eq_false l], ?_⟩
    simp [l]
end K07

namespace K07
open PySem PySem.Spec PyProof.Rows L2 Dl
/-- the law's own number: 99 for none, at most 99 -/
def lv (c : Int) : Int := if c = 0 then 99 else if c < 99 then c else 99
theorem sum_nonneg : ∀ cs : List Int, (∀ c ∈ cs, 0 ≤ c) → 0 ≤ cs.sum
  | [], _ => by simp
  | c :: r, h => by
    have := sum_nonneg r fun x hx => h x (List.mem_cons_of_mem _ hx)
    have := h c List.mem_cons_self
    rw [List.sum_cons]; omega
theorem cnt_nonneg : ∀ (r : Nat) (w : Bool) (d : PyData), 0 ≤ cnt r w d := by
  intro r
  induction r with
  | zero => intro w d; exact Int.le_refl 0
  | succ r ih =>
    intro w d
    match d with
    | .tuple [a, b] =>
      show 0 ≤ (if isNot a = true then cnt r w b else if isOf groups2 a = true then groupOf (cnt r w) b else 0)
      split
      · exact ih w b
      · split
        · cases b with
          | tuple ps =>
            rw [groupOf_tup]
            split
            · unfold grp
              split
              · refine sum_nonneg _ fun c hc => ?_
                obtain ⟨d, _, rfl⟩ := List.mem_map.mp hc
                exact ih w d
              · exact Int.le_refl 0
            · exact Int.le_refl 0
          | _ => exact Int.le_refl 0
        · exact Int.le_refl 0
    | .tuple [a, b, c] =>
      show 0 ≤ (if isOf pieces4 a = true then (if pieceB a b c = true then (1 : Int) else 0) else if (isOf rounds2 a && (!w && nameB b)) = true then cnt r true c else 0)
      split
      · split <;> decide
      · split
        · exact ih true c
        · exact Int.le_refl 0
    | .tuple [] => exact Int.le_refl 0
    | .tuple [_] => exact Int.le_refl 0
    | .tuple (_ :: _ :: _ :: _ :: _) => exact Int.le_refl 0
    | .none => exact Int.le_refl 0
    | .bool _ => exact Int.le_refl 0
    | .int _ => exact Int.le_refl 0
    | .str _ => exact Int.le_refl 0
    | .list _ => exact Int.le_refl 0
    | .dict _ => exact Int.le_refl 0
theorem lv_sum : ∀ cs : List Int, (∀ c ∈ cs, 0 ≤ c) → 0 ≤ (cs.map lv).sum ∧
    ((cs.all (fun c => decide (0 < c)) = true ∧ ((cs.map lv).sum = cs.sum ∨ (99 ≤ (cs.map lv).sum ∧ 99 ≤ cs.sum))) ∨ (cs.all (fun c => decide (0 < c)) = false ∧ 99 ≤ (cs.map lv).sum))
  | [], _ => ⟨by simp, .inl ⟨rfl, .inl rfl⟩⟩
  | c :: r, h => by
    have hc := h c List.mem_cons_self
    obtain ⟨n, ih⟩ := lv_sum r fun x hx => h x (List.mem_cons_of_mem _ hx)
    have rn := sum_nonneg r fun x hx => h x (List.mem_cons_of_mem _ hx)
    rw [List.map_cons, List.sum_cons, List.sum_cons, List.all_cons]
    by_cases z : c = 0
    · subst z
      have e : lv 0 = 99 := rfl
      rw [e]
      exact ⟨by omega, .inr ⟨rfl, by omega⟩⟩
    · have p : decide (0 < c) = true := decide_eq_true (by omega)
      rw [p, Bool.true_and]
      by_cases l : c < 99
      · have e : lv c = c := by unfold lv; rw [if_neg z, if_pos l]
        rw [e]
        refine ⟨by omega, ?_⟩
        rcases ih with ⟨h1, h2 | ⟨h2, h3⟩⟩ | ⟨h1, h2⟩
        · exact .inl ⟨h1, .inl (by omega)⟩
        · exact .inl ⟨h1, .inr ⟨by omega, by omega⟩⟩
        · exact .inr ⟨h1, by omega⟩
      · have e : lv c = 99 := by unfold lv; rw [if_neg z, if_neg l]
        rw [e]
        refine ⟨by omega, ?_⟩
        rcases ih with ⟨h1, h2⟩ | ⟨h1, h2⟩
        · exact .inl ⟨h1, .inr ⟨by omega, by omega⟩⟩
        · exact .inr ⟨h1, by omega⟩
theorem lv_grp {cs : List Int} (h : ∀ c ∈ cs, 0 ≤ c) (ne : cs ≠ []) : (if (cs.map lv).sum < 99 then (cs.map lv).sum else 99) = lv (grp cs) := by
  obtain ⟨n, ih⟩ := lv_sum cs h
  rcases ih with ⟨h1, h2⟩ | ⟨h1, h2⟩
  · have g : grp cs = cs.sum := if_pos h1
    have pos : 0 < cs.sum := by
      cases cs with
      | nil => exact absurd rfl ne
      | cons c r =>
        rw [List.all_cons, Bool.and_eq_true] at h1
        have a := of_decide_eq_true h1.1
        have b := sum_nonneg r fun x hx => h x (List.mem_cons_of_mem _ hx)
        rw [List.sum_cons]; omega
    have l : lv cs.sum = if cs.sum < 99 then cs.sum else 99 := if_neg (by omega)
    rw [g, l]
    rcases h2 with e | ⟨e1, e2⟩
    · rw [e]
    · rw [if_neg (by omega), if_neg (by omega)]
  · have g : grp cs = 0 := if_neg (by rw [h1]; exact Bool.false_ne_true)
    rw [g, if_neg (by omega)]
    rfl
theorem lv_one : lv 1 = 1 := rfl
theorem lv_none : lv 0 = 99 := rfl
theorem million {D : PyData → Prop} (h : D (.int 1000000)) : Gd (gPow (.int 10) (.int 6)) D := by
  refine n_pow (b := 6) 4 (by decide) (by decide) (by decide) (by decide) fun _ => ?_
  have e : (10 : Int) ^ 6 = 1000000 := by decide
  rw [e]
  exact h
/-- of a text: the words apart -/
theorem word_kinds {a : PyData} : (isOf isHas a = true → isOf pieces4 a = true ∧ isNot a = false ∧ isOf groups2 a = false) ∧ (isOf fromTo a = true → isOf pieces4 a = true ∧ isOf isHas a = false ∧ isNot a = false ∧ isOf groups2 a = false) ∧
    (isOf pieces4 a = true → isOf isHas a = true ∨ isOf fromTo a = true) ∧ (isOf bonds3 a = (isNot a || isOf groups2 a)) := by
  cases a with
  | str x =>
    have e1 : isOf isHas (.str x) = ((("is" : Str) == x) || ((("has" : Str) == x) || false)) := rfl
    have e2 : isOf fromTo (.str x) = ((("from" : Str) == x) || ((("to" : Str) == x) || false)) := rfl
    have e3 : isOf pieces4 (.str x) = ((("is" : Str) == x) || ((("has" : Str) == x) || ((("from" : Str) == x) || ((("to" : Str) == x) || false)))) := rfl
    have e4 : isNot (.str x) = (x == ("not" : Str)) := rfl
    have e5 : isOf groups2 (.str x) = ((("and" : Str) == x) || ((("or" : Str) == x) || false)) := rfl
    have e6 : isOf bonds3 (.str x) = ((("not" : Str) == x) || ((("and" : Str) == x) || ((("or" : Str) == x) || false))) := rfl
    have sym : (x == ("not" : Str)) = (("not" : Str) == x) := by
      rw [Bool.eq_iff_iff, beq_iff_eq, beq_iff_eq]
      exact eq_comm
    refine ⟨fun h => ?_, fun h => ?_, fun h => ?_, by rw [e6, e4, e5, sym]⟩
    · rw [e1] at h
      simp only [Bool.or_false, Bool.or_eq_true, beq_iff_eq] at h
      rcases h with rfl | rfl <;> exact ⟨by decide, by decide, by decide⟩
    · rw [e2] at h
      simp only [Bool.or_false, Bool.or_eq_true, beq_iff_eq] at h
      rcases h with rfl | rfl <;> exact ⟨by decide, by decide, by decide, by decide⟩
    · rw [e3] at h
      rw [e1, e2]
      simp only [Bool.or_false, Bool.or_eq_true, beq_iff_eq] at h ⊢
      rcases h with h | h | h | h
      · exact .inl (.inl h)
      · exact .inl (.inr h)
      · exact .inr (.inl h)
      · exact .inr (.inr h)
  | _ => exact ⟨fun h => (by cases h), fun h => (by cases h), fun h => (by cases h), rfl⟩
end K07

namespace K07
open PySem PySem.Spec PyProof.Rows L2 Dl
local macro_rules | `(tactic| decreasing_trivial_pre_omega) => `(tactic| (first | with_reducible refine s_seq ?_ | with_reducible refine s_if ?_ | with_reducible refine s_set ?_ | with_reducible refine s_setIx ?_ | with_reducible refine s_ret ?_ | with_reducible refine s_nil ?_ | with_reducible refine s_own ?_ | with_reducible refine s_par ?_ | with_reducible refine t_tst ?_ | with_reducible refine t_and ?_ | with_reducible refine t_or ?_ | with_reducible refine t_not ?_ | with_reducible refine t_yes ?_ | with_reducible refine e_op ?_ | with_reducible refine e_un ?_ | with_reducible refine e_chain ?_ | with_reducible refine e_b ?_ | with_reducible refine e_c ?_ | with_reducible refine e_l ?_ | with_reducible refine e_tup ?_ | with_reducible refine e_call ?_ | with_reducible refine e_and ?_ | with_reducible refine e_or ?_ | with_reducible refine e_not ?_ | with_reducible refine e_if ?_ | with_reducible refine e_sl ?_ | with_reducible refine o_n ?_ | with_reducible refine o_s ?_ | with_reducible refine a_nil ?_ | with_reducible refine a_cons ?_ | with_reducible refine f_lst ?_ | with_reducible refine f_call ?_ | with_reducible refine f_itA ?_ | with_reducible refine f_r1 ?_ | with_reducible refine r_seq ?_ | with_reducible refine n_add ?_ | with_reducible refine n_sub ?_ | with_reducible refine n_gt ?_ | with_reducible refine n_ge ?_ | with_reducible refine n_lt ?_ | with_reducible refine n_le ?_ | with_reducible refine e_var (by with_unfolding_all rfl) ?_ | with_reducible refine e_ixc (by with_unfolding_all rfl) ?_ | with_reducible refine e_callM (by with_unfolding_all rfl) ?_ | with_reducible refine s_frz (by with_unfolding_all rfl) ?_ | with_reducible refine s_app (by with_unfolding_all rfl) ?_ | refine Or.inl ⟨by first | with_reducible rfl | with_reducible exact Bool.not_false, ?_⟩ | refine Or.inr ⟨by first | with_reducible rfl | with_reducible exact Bool.not_true, ?_⟩ | refine Exists.intro _ (Exists.intro _ ⟨rfl, rfl, gd rfl ?_⟩) | refine Exists.intro _ ⟨rfl, ?_⟩))
local macro_rules | `(tactic| decreasing_trivial) => `(tactic| repeat decreasing_trivial_pre_omega)
theorem cnt2 (r : Nat) (w : Bool) (a b : PyData) : cnt (r + 1) w (.tuple [a, b]) = if isNot a = true then cnt r w b else if isOf groups2 a = true then groupOf (cnt r w) b else 0 := rfl
theorem cnt3 (r : Nat) (w : Bool) (a b c : PyData) : cnt (r + 1) w (.tuple [a, b, c]) = if isOf pieces4 a = true then (if pieceB a b c = true then 1 else 0) else if (isOf rounds2 a && (!w && nameB b)) = true then cnt r true c else 0 := rfl
theorem nf {b : Bool} (h : b = false) : ¬ b = true := by rw [h]; exact Bool.false_ne_true
theorem not_str {a : PyData} (h : ∀ x, a ≠ .str x) : isOf pieces4 a = false ∧ isNot a = false ∧ isOf groups2 a = false ∧ isOf rounds2 a = false := by
  cases a with
  | str x => exact absurd rfl (h x)
  | _ => exact ⟨rfl, rfl, rfl, rfl⟩
theorem not_tuple {r : Nat} {w : Bool} {d : PyData} (h : ∀ ds, d ≠ .tuple ds) : cnt r w d = 0 := by
  cases r with
  | zero => rfl
  | succ r =>
    cases d with
    | tuple ds => exact absurd rfl (h ds)
    | _ => rfl
theorem count_long (r : Nat) (w : Bool) (a b c d : PyData) (t : List PyData) : cnt r w (.tuple (a :: b :: c :: d :: t)) = 0 := by cases r <;> rfl
theorem ints_of (f : PyData → Int) (ps : List PyData) : (ps.map fun d => PyData.int (f d)) = (ps.map f).map .int := by rw [List.map_map]; rfl
def restA (self : List PyData → Option PyData) : DS := (sSeq (sIf (dOrT (dTst (dOp gNe (dB gLen (aCons (dVar 0) aNil)) (dC (.int 2)))) (dTst (dOp (gIn true) (dOp gIx (dVar 0) (dC (.int 0))) (dTup (aCons (dC (.str "not")) (aCons (dC (.str "and")) (aCons (dC (.str "or")) aNil)))))))
  (sRet (dC (.int 99)))
  sNil)
  (sSeq (sIf (dTst (dOp gEq (dOp gIx (dVar 0) (dC (.int 0))) (dC (.str "not"))))
  (sRet (dCall self (aCons (dOp gIx (dVar 0) (dC (.int 1))) (aCons (dOp gSub (dVar 1) (dC (.int 1))) (aCons (dVar 2) aNil)))))
  sNil)
  (sSeq (sIf (dOrT (dNotT (dTst (dUn (gIsi "tuple") (dOp gIx (dVar 0) (dC (.int 1)))))) (dNotT (dTst (dChain gLe gLe (dC (.int 2)) (dB gLen (aCons (dOp gIx (dVar 0) (dC (.int 1))) aNil)) (dC (.int 6))))))
  (sRet (dC (.int 99)))
  sNil)
  (sRet (dB gMin (aCons (dC (.int 99)) (aCons (dB gSum (aCons (dL (fLc (itA (dOp gIx (dVar 0) (dC (.int 1)))) 3 tYesD (dCall self (aCons (dVar 3) (aCons (dOp gSub (dVar 1) (dC (.int 1))) (aCons (dVar 2) aNil)))))) aNil)) aNil)))))))
def restB (self : List PyData → Option PyData) : DS := (sSeq (sIf (dAndT (dTst (dOp (gIn false) (dOp gIx (dVar 0) (dC (.int 0))) (dTup (aCons (dC (.str "any")) (aCons (dC (.str "every")) aNil))))) (dAndT (dTst (dOp gEq (dB gLen (aCons (dVar 0) aNil)) (dC (.int 3)))) (dAndT (dTst (dCall m__law_is_name (aCons (dOp gIx (dVar 0) (dC (.int 1))) aNil))) (dNotT (dTst (dVar 2))))))
  (sRet (dCall self (aCons (dOp gIx (dVar 0) (dC (.int 2))) (aCons (dOp gSub (dVar 1) (dC (.int 1))) (aCons (dC (.bool true)) aNil)))))
  sNil)
  (restA self))
def restC (self : List PyData → Option PyData) : DS := (sSeq (sIf (dAndT (dTst (dOp (gIn false) (dOp gIx (dVar 0) (dC (.int 0))) (dTup (aCons (dC (.str "from")) (aCons (dC (.str "to")) aNil))))) (dTst (dOp gEq (dB gLen (aCons (dVar 0) aNil)) (dC (.int 3)))))
  (sRet (dIf (dAndT (dTst (dCall m__law_is_name (aCons (dOp gIx (dVar 0) (dC (.int 1))) aNil))) (dTst (dCall m__law_is_within (aCons (dOp gIx (dVar 0) (dC (.int 2))) (aCons (dC (.int 0)) (aCons (dOp gPow (dC (.int 10)) (dC (.int 6))) aNil)))))) (dC (.int 1)) (dC (.int 99))))
  sNil)
  (restB self))
theorem rest_long {n r : Nat} {w : Bool} {x : Str} {b c d : PyData} {t : List PyData} {k : Nat} (fa : Fit k (.str x)) {s : Sl} (hs : s = [.dat (.tuple (.str x :: b :: c :: d :: t)), .dat (.int ((r + 1 : Nat) : Int)), .dat (.bool w), .no]) {N : Sl → Prop} :
    Gs (restA (m__law_pieces n) s) N fun q _ => q = .int 99 := by
  subst hs
  unfold restA
  decreasing_trivial
  refine gd (a := .int ((PyData.str x :: b :: c :: d :: t).length : Nat)) rfl ?_
  decreasing_trivial
  refine gd (ne_int _ _) ?_
  decreasing_trivial
  refine .inl ⟨?_, ?_⟩
  · simp only [List.length_cons]
    simp
    omega
  · decreasing_trivial
    rfl
theorem rest_two {n r : Nat} {w : Bool} {x : Str} {b : PyData} {k : Nat} (fa : Fit k (.str x)) (fb : Fit k b) (ih : ∀ (j : Nat) (w : Bool) (e : PyData), Fit j e → Gd (m__law_pieces n [e, .int (r : Nat), .bool w]) fun q => q = .int (lv (cnt r w e)))
    {s : Sl} (hs : s = [.dat (.tuple [.str x, b]), .dat (.int ((r + 1 : Nat) : Int)), .dat (.bool w), .no]) {N : Sl → Prop} :
    Gs (restA (m__law_pieces n) s) N fun q _ => q = .int (lv (cnt (r + 1) w (.tuple [.str x, b]))) := by
  subst hs
  have dec : ((r + 1 : Nat) : Int) - 1 = (r : Int) := by omega
  obtain ⟨wk1, wk2, wk3, wk4⟩ := word_kinds (a := .str x)
  unfold restA
  decreasing_trivial
  refine gd (a := .int 2) rfl ?_
  decreasing_trivial
  refine gd (ne_int _ _) ?_
  decreasing_trivial
  refine .inr ⟨rfl, ?_⟩
  decreasing_trivial
  refine gd (at_0 _ _) ?_
  decreasing_trivial
  refine ⟨by decide, ?_⟩
  refine gd (notin_bonds fa) ?_
  decreasing_trivial
  rw [cnt2]
  cases u : isOf bonds3 (.str x) with
  | false =>
    rw [wk4] at u
    obtain ⟨u1, u2⟩ := Bool.or_eq_false_iff.mp u
    decreasing_trivial
    rw [if_neg (nf u1), if_neg (nf u2)]
    rfl
  | true =>
    decreasing_trivial
    refine gd (at_0 _ _) ?_
    decreasing_trivial
    refine gd (eq_not fa) ?_
    decreasing_trivial
    cases v : isNot (.str x) with
    | true =>
      rw [if_pos rfl]
      decreasing_trivial
      refine gd (at_1 _ _ _) ?_
      decreasing_trivial
      rw [dec]
      exact ih k w b fb
    | false =>
      have g : isOf groups2 (.str x) = true := by
        rw [wk4, v, Bool.false_or] at u
        exact u
      rw [if_neg Bool.false_ne_true, if_pos g]
      decreasing_trivial
      refine gd (at_1 _ _ _) ?_
      cases b with
      | tuple ps =>
        obtain ⟨few, j, fits⟩ := fit_mem fb
        refine gd (a := .bool true) rfl ?_
        decreasing_trivial
        refine gd (at_1 _ _ _) ?_
        decreasing_trivial
        refine gd (a := .int (ps.length : Nat)) rfl ?_
        rw [groupOf_tup]
        decreasing_trivial
        by_cases l1 : 2 ≤ ps.length
        · refine .inl ⟨by simp; omega, ?_⟩
          decreasing_trivial
          by_cases l2 : ps.length ≤ 6
          · rw [if_pos ⟨l1, l2⟩]
            refine .inr ⟨by simp; omega, ?_⟩
            decreasing_trivial
            refine f_lc_pure (fun _ => true) (fun d => .int (lv (cnt r w d))) ?_
            decreasing_trivial
            refine gd (at_1 _ _ _) ?_
            decreasing_trivial
            refine .inl ⟨ps, .inr rfl, rfl, Nat.lt_of_le_of_lt few (by decide), fun d hd => ⟨?_, fun _ => ?_⟩, ?_⟩
            · decreasing_trivial
              exact ⟨rfl, rfl⟩
            · decreasing_trivial
              rw [dec]
              refine gd_mono (ih j w d (fits d hd)) fun q hq => ?_
              exact ⟨hq, rfl⟩
            · rw [List.filter_eq_self.mpr (fun _ _ => rfl)]
              have e : (ps.map fun d => PyData.int (lv (cnt r w d))) = ((ps.map (cnt r w)).map lv).map .int := by rw [List.map_map, List.map_map]; rfl
              rw [e]
              have nn : ∀ c ∈ ps.map (cnt r w), 0 ≤ c := fun c hc => by
                obtain ⟨d, _, rfl⟩ := List.mem_map.mp hc
                exact cnt_nonneg r w d
              have ne : ps.map (cnt r w) ≠ [] := fun z => by
                have := congrArg List.length z
                rw [List.length_map] at this
                simp at this
                rw [this] at l1
                simp at l1
              have fin := lv_grp nn ne
              decreasing_trivial
              refine gd (a := .int ((ps.map (cnt r w)).map lv).sum) (by show Option.map _ (intsD _) = _; rw [ints_map]; rfl) ?_
              decreasing_trivial
              refine gd (a := .int (if ((ps.map (cnt r w)).map lv).sum < 99 then ((ps.map (cnt r w)).map lv).sum else 99)) rfl ?_
              rw [fin]
          · rw [if_neg (fun z => l2 z.2)]
            refine .inl ⟨by simp; omega, ?_⟩
            decreasing_trivial
            rfl
        · rw [if_neg (fun z => l1 z.1)]
          refine .inr ⟨by simp; omega, ?_⟩
          decreasing_trivial
          rfl
      | dict kvs =>
        have e : kvs = [] := by cases k <;> exact fb
        subst e
        refine gd (a := .bool false) rfl ?_
        decreasing_trivial
        rfl
      | _ =>
        refine gd (a := .bool false) rfl ?_
        decreasing_trivial
        rfl
theorem rest_three {n r : Nat} {w : Bool} {x : Str} {b c : PyData} {s : Sl} (hs : s = [.dat (.tuple [.str x, b, c]), .dat (.int ((r + 1 : Nat) : Int)), .dat (.bool w), .no]) {N : Sl → Prop} :
    Gs (restA (m__law_pieces n) s) N fun q _ => q = .int 99 := by
  subst hs
  unfold restA
  decreasing_trivial
  refine gd (a := .int 3) rfl ?_
  decreasing_trivial
  refine gd (ne_int _ _) ?_
  decreasing_trivial
  refine .inl ⟨rfl, ?_⟩
  decreasing_trivial
  rfl
theorem law_pieces_ok : ∀ (r fuel k : Nat) (w : Bool) (d : PyData), r < fuel → Fit k d → Gd (m__law_pieces fuel [d, .int (r : Nat), .bool w]) fun q => q = .int (lv (cnt r w d)) := by
  intro r
  induction r with
  | zero =>
    intro fuel k w d hf fd
    obtain ⟨n, rfl⟩ : ∃ n, fuel = n + 1 := ⟨fuel - 1, by omega⟩
    show Gd (fnP _ _ (b__law_pieces (m__law_pieces n)) _) _
    refine m_fnP rfl ?_
    unfold b__law_pieces
    decreasing_trivial
    refine .inl ⟨by decide, ?_⟩
    decreasing_trivial
    cases d <;> rfl
  | succ r ih =>
    intro fuel k w d hf fd
    obtain ⟨n, rfl⟩ : ∃ n, fuel = n + 1 := ⟨fuel - 1, by omega⟩
    have hn : r < n := by omega
    have dec : ((r + 1 : Nat) : Int) - 1 = (r : Int) := by omega
    show Gd (fnP _ _ (b__law_pieces (m__law_pieces n)) _) _
    refine m_fnP rfl ?_
    unfold b__law_pieces
    decreasing_trivial
    refine .inr ⟨decide_eq_false (by omega), ?_⟩
    decreasing_trivial
    cases d with
    | dict kvs =>
      have e : kvs = [] := by cases k <;> exact fd
      subst e
      refine gd (a := .bool false) rfl ?_
      decreasing_trivial
      rfl
    | tuple ds =>
      obtain ⟨few, j, fits⟩ := fit_mem fd
      refine gd (a := .bool true) rfl ?_
      decreasing_trivial
      refine gd (a := .int (ds.length : Nat)) rfl ?_
      decreasing_trivial
      match ds, fits with
      | [], _ =>
        refine .inl ⟨by decide, ?_⟩
        decreasing_trivial
        rfl
      | [a], _ =>
        refine .inl ⟨decide_eq_true (by show (1 : Int) < 2; decide), ?_⟩
        decreasing_trivial
        rfl
      | a :: b :: t, fits =>
        have fa := fits a (by simp)
        have fb := fits b (by simp)
        refine .inr ⟨decide_eq_false (by simp only [List.length_cons]; omega), ?_⟩
        decreasing_trivial
        refine gd (at_0 _ _) ?_
        by_cases st : ∃ x, a = .str x
        · obtain ⟨x, rfl⟩ := st
          obtain ⟨wk1, wk2, wk3, wk4⟩ := word_kinds (a := .str x)
          refine gd (a := .bool true) rfl ?_
          decreasing_trivial
          refine gd (at_0 _ _) ?_
          decreasing_trivial
          refine ⟨by decide, ?_⟩
          refine gd (in_isHas fa) ?_
          decreasing_trivial
          match t, fits with
          | [], fits =>
            cases t0 : isOf isHas (.str x) with
            | true =>
              decreasing_trivial
              refine gd (a := .int 2) rfl ?_
              decreasing_trivial
              refine gd (eq_int _ _) ?_
              decreasing_trivial
              refine .inr ⟨rfl, ?_⟩
              decreasing_trivial
              refine gd (at_0 _ _) ?_
              decreasing_trivial
              refine ⟨by decide, ?_⟩
              refine gd (in_fromTo fa) ?_
              decreasing_trivial
              cases t1 : isOf fromTo (.str x) with
              | true =>
                decreasing_trivial
                refine gd (a := .int 2) rfl ?_
                decreasing_trivial
                refine gd (eq_int _ _) ?_
                decreasing_trivial
                refine .inr ⟨rfl, ?_⟩
                decreasing_trivial
                refine gd (at_0 _ _) ?_
                decreasing_trivial
                refine ⟨by decide, ?_⟩
                refine gd (in_rounds fa) ?_
                decreasing_trivial
                cases t2 : isOf rounds2 (.str x) with
                | true =>
                  decreasing_trivial
                  refine gd (a := .int 2) rfl ?_
                  decreasing_trivial
                  refine gd (eq_int _ _) ?_
                  decreasing_trivial
                  refine .inr ⟨rfl, ?_⟩
                  repeat (first | exact rest_two fa fb (fun j w e fe => ih n j w e hn fe) rfl | decreasing_trivial_pre_omega)
                | false =>
                  repeat (first | exact rest_two fa fb (fun j w e fe => ih n j w e hn fe) rfl | decreasing_trivial_pre_omega)
              | false =>
                decreasing_trivial
                refine gd (at_0 _ _) ?_
                decreasing_trivial
                refine ⟨by decide, ?_⟩
                refine gd (in_rounds fa) ?_
                decreasing_trivial
                cases t2 : isOf rounds2 (.str x) with
                | true =>
                  decreasing_trivial
                  refine gd (a := .int 2) rfl ?_
                  decreasing_trivial
                  refine gd (eq_int _ _) ?_
                  decreasing_trivial
                  refine .inr ⟨rfl, ?_⟩
                  repeat (first | exact rest_two fa fb (fun j w e fe => ih n j w e hn fe) rfl | decreasing_trivial_pre_omega)
                | false =>
                  repeat (first | exact rest_two fa fb (fun j w e fe => ih n j w e hn fe) rfl | decreasing_trivial_pre_omega)
            | false =>
              decreasing_trivial
              refine gd (at_0 _ _) ?_
              decreasing_trivial
              refine ⟨by decide, ?_⟩
              refine gd (in_fromTo fa) ?_
              decreasing_trivial
              cases t1 : isOf fromTo (.str x) with
              | true =>
                decreasing_trivial
                refine gd (a := .int 2) rfl ?_
                decreasing_trivial
                refine gd (eq_int _ _) ?_
                decreasing_trivial
                refine .inr ⟨rfl, ?_⟩
                decreasing_trivial
                refine gd (at_0 _ _) ?_
                decreasing_trivial
                refine ⟨by decide, ?_⟩
                refine gd (in_rounds fa) ?_
                decreasing_trivial
                cases t2 : isOf rounds2 (.str x) with
                | true =>
                  decreasing_trivial
                  refine gd (a := .int 2) rfl ?_
                  decreasing_trivial
                  refine gd (eq_int _ _) ?_
                  decreasing_trivial
                  refine .inr ⟨rfl, ?_⟩
                  repeat (first | exact rest_two fa fb (fun j w e fe => ih n j w e hn fe) rfl | decreasing_trivial_pre_omega)
                | false =>
                  repeat (first | exact rest_two fa fb (fun j w e fe => ih n j w e hn fe) rfl | decreasing_trivial_pre_omega)
              | false =>
                decreasing_trivial
                refine gd (at_0 _ _) ?_
                decreasing_trivial
                refine ⟨by decide, ?_⟩
                refine gd (in_rounds fa) ?_
                decreasing_trivial
                cases t2 : isOf rounds2 (.str x) with
                | true =>
                  decreasing_trivial
                  refine gd (a := .int 2) rfl ?_
                  decreasing_trivial
                  refine gd (eq_int _ _) ?_
                  decreasing_trivial
                  refine .inr ⟨rfl, ?_⟩
                  repeat (first | exact rest_two fa fb (fun j w e fe => ih n j w e hn fe) rfl | decreasing_trivial_pre_omega)
                | false =>
                  repeat (first | exact rest_two fa fb (fun j w e fe => ih n j w e hn fe) rfl | decreasing_trivial_pre_omega)
          | [c], fits =>
            have fc := fits c (by simp)
            cases t0 : isOf isHas (.str x) with
            | true =>
              obtain ⟨p1, _, _⟩ := wk1 t0
              rw [cnt3, if_pos p1]
              decreasing_trivial
              refine gd (a := .int 3) rfl ?_
              decreasing_trivial
              refine gd (eq_int _ _) ?_
              decreasing_trivial
              refine .inl ⟨rfl, ?_⟩
              decreasing_trivial
              refine gd (at_1 _ _ _) ?_
              decreasing_trivial
              refine gd_mono (law_is_name_ok fb) fun q hq => ?_
              subst hq
              have pb : pieceB (.str x) b c = (nameB b && nameB c) := if_pos t0
              rw [pb]
              decreasing_trivial
              cases nb : nameB b with
              | false =>
                decreasing_trivial
                rfl
              | true =>
                decreasing_trivial
                refine gd (at_2 _ _ _ _) ?_
                decreasing_trivial
                refine gd_mono (law_is_name_ok fc) fun q hq => ?_
                subst hq
                decreasing_trivial
                cases nc : nameB c with
                | true =>
                  decreasing_trivial
                  rfl
                | false =>
                  decreasing_trivial
                  rfl
            | false =>
              decreasing_trivial
              refine gd (at_0 _ _) ?_
              decreasing_trivial
              refine ⟨by decide, ?_⟩
              refine gd (in_fromTo fa) ?_
              decreasing_trivial
              cases t1 : isOf fromTo (.str x) with
              | true =>
                obtain ⟨p1, _, _, _⟩ := wk2 t1
                rw [cnt3, if_pos p1]
                have pb : pieceB (.str x) b c = (nameB b && wholeB 0 1000000 c) := if_neg (nf t0)
                rw [pb]
                decreasing_trivial
                refine gd (a := .int 3) rfl ?_
                decreasing_trivial
                refine gd (eq_int _ _) ?_
                decreasing_trivial
                refine .inl ⟨rfl, ?_⟩
                decreasing_trivial
                refine gd (at_1 _ _ _) ?_
                decreasing_trivial
                refine gd_mono (law_is_name_ok fb) fun q hq => ?_
                subst hq
                decreasing_trivial
                cases nb : nameB b with
                | false =>
                  decreasing_trivial
                  rfl
                | true =>
                  decreasing_trivial
                  refine gd (at_2 _ _ _ _) ?_
                  decreasing_trivial
                  refine million ?_
                  decreasing_trivial
                  refine gd_mono (within_ok fc 0 1000000) fun q hq => ?_
                  subst hq
                  decreasing_trivial
                  cases nc : wholeB 0 1000000 c with
                  | true =>
                    decreasing_trivial
                    rfl
                  | false =>
                    decreasing_trivial
                    rfl
              | false =>
                have np : ¬ isOf pieces4 (.str x) = true := fun z => by
                  rcases wk3 z with q | q
                  · rw [t0] at q; cases q
                  · rw [t1] at q; cases q
                rw [cnt3, if_neg np]
                decreasing_trivial
                refine gd (at_0 _ _) ?_
                decreasing_trivial
                refine ⟨by decide, ?_⟩
                refine gd (in_rounds fa) ?_
                decreasing_trivial
                cases t2 : isOf rounds2 (.str x) with
                | false =>
                  rw [if_neg (by simp), lv_none]
                  repeat (first | exact rest_three rfl | decreasing_trivial_pre_omega)
                | true =>
                  decreasing_trivial
                  refine gd (a := .int 3) rfl ?_
                  decreasing_trivial
                  refine gd (eq_int _ _) ?_
                  decreasing_trivial
                  refine .inl ⟨rfl, ?_⟩
                  decreasing_trivial
                  refine gd (at_1 _ _ _) ?_
                  decreasing_trivial
                  refine gd_mono (law_is_name_ok fb) fun q hq => ?_
                  subst hq
                  decreasing_trivial
                  cases nb : nameB b with
                  | false =>
                    rw [if_neg (by simp), lv_none]
                    repeat (first | exact rest_three rfl | decreasing_trivial_pre_omega)
                  | true =>
                    cases w with
                    | true =>
                      rw [if_neg (by simp), lv_none]
                      repeat (first | exact rest_three rfl | decreasing_trivial_pre_omega)
                    | false =>
                      rw [if_pos (show (true && (!false && true)) = true from rfl)]
                      decreasing_trivial
                      refine gd (at_2 _ _ _ _) ?_
                      decreasing_trivial
                      rw [dec]
                      exact ih n j true c hn fc
          | c :: d :: t', fits =>
            have long3 : ((((PyData.str x :: b :: c :: d :: t').length : Nat) : Int) == 3) = false := beq_eq_false_iff_ne.mpr fun e => (by simp only [List.length_cons] at e; omega)
            rw [count_long, lv_none]
            cases t0 : isOf isHas (.str x) with
            | true =>
              decreasing_trivial
              refine gd (a := .int ((PyData.str x :: b :: c :: d :: t').length : Nat)) rfl ?_
              decreasing_trivial
              refine gd (eq_int _ _) ?_
              decreasing_trivial
              refine .inr ⟨long3, ?_⟩
              decreasing_trivial
              refine gd (at_0 _ _) ?_
              decreasing_trivial
              refine ⟨by decide, ?_⟩
              refine gd (in_fromTo fa) ?_
              decreasing_trivial
              cases t1 : isOf fromTo (.str x) with
              | true =>
                decreasing_trivial
                refine gd (a := .int ((PyData.str x :: b :: c :: d :: t').length : Nat)) rfl ?_
                decreasing_trivial
                refine gd (eq_int _ _) ?_
                decreasing_trivial
                refine .inr ⟨long3, ?_⟩
                decreasing_trivial
                refine gd (at_0 _ _) ?_
                decreasing_trivial
                refine ⟨by decide, ?_⟩
                refine gd (in_rounds fa) ?_
                decreasing_trivial
                cases t2 : isOf rounds2 (.str x) with
                | true =>
                  decreasing_trivial
                  refine gd (a := .int ((PyData.str x :: b :: c :: d :: t').length : Nat)) rfl ?_
                  decreasing_trivial
                  refine gd (eq_int _ _) ?_
                  decreasing_trivial
                  refine .inr ⟨long3, ?_⟩
                  repeat (first | exact rest_long fa rfl | decreasing_trivial_pre_omega)
                | false =>
                  repeat (first | exact rest_long fa rfl | decreasing_trivial_pre_omega)
              | false =>
                decreasing_trivial
                refine gd (at_0 _ _) ?_
                decreasing_trivial
                refine ⟨by decide, ?_⟩
                refine gd (in_rounds fa) ?_
                decreasing_trivial
                cases t2 : isOf rounds2 (.str x) with
                | true =>
                  decreasing_trivial
                  refine gd (a := .int ((PyData.str x :: b :: c :: d :: t').length : Nat)) rfl ?_
                  decreasing_trivial
                  refine gd (eq_int _ _) ?_
                  decreasing_trivial
                  refine .inr ⟨long3, ?_⟩
                  repeat (first | exact rest_long fa rfl | decreasing_trivial_pre_omega)
                | false =>
                  repeat (first | exact rest_long fa rfl | decreasing_trivial_pre_omega)
            | false =>
              decreasing_trivial
              refine gd (at_0 _ _) ?_
              decreasing_trivial
              refine ⟨by decide, ?_⟩
              refine gd (in_fromTo fa) ?_
              decreasing_trivial
              cases t1 : isOf fromTo (.str x) with
              | true =>
                decreasing_trivial
                refine gd (a := .int ((PyData.str x :: b :: c :: d :: t').length : Nat)) rfl ?_
                decreasing_trivial
                refine gd (eq_int _ _) ?_
                decreasing_trivial
                refine .inr ⟨long3, ?_⟩
                decreasing_trivial
                refine gd (at_0 _ _) ?_
                decreasing_trivial
                refine ⟨by decide, ?_⟩
                refine gd (in_rounds fa) ?_
                decreasing_trivial
                cases t2 : isOf rounds2 (.str x) with
                | true =>
                  decreasing_trivial
                  refine gd (a := .int ((PyData.str x :: b :: c :: d :: t').length : Nat)) rfl ?_
                  decreasing_trivial
                  refine gd (eq_int _ _) ?_
                  decreasing_trivial
                  refine .inr ⟨long3, ?_⟩
                  repeat (first | exact rest_long fa rfl | decreasing_trivial_pre_omega)
                | false =>
                  repeat (first | exact rest_long fa rfl | decreasing_trivial_pre_omega)
              | false =>
                decreasing_trivial
                refine gd (at_0 _ _) ?_
                decreasing_trivial
                refine ⟨by decide, ?_⟩
                refine gd (in_rounds fa) ?_
                decreasing_trivial
                cases t2 : isOf rounds2 (.str x) with
                | true =>
                  decreasing_trivial
                  refine gd (a := .int ((PyData.str x :: b :: c :: d :: t').length : Nat)) rfl ?_
                  decreasing_trivial
                  refine gd (eq_int _ _) ?_
                  decreasing_trivial
                  refine .inr ⟨long3, ?_⟩
                  repeat (first | exact rest_long fa rfl | decreasing_trivial_pre_omega)
                | false =>
                  repeat (first | exact rest_long fa rfl | decreasing_trivial_pre_omega)
        · have ns : ∀ x, a ≠ .str x := fun x e => st ⟨x, e⟩
          obtain ⟨n1, n2, n3, n4⟩ := not_str ns
          have z : cnt (r + 1) w (.tuple (a :: b :: t)) = 0 := by
            match t with
            | [] => rw [cnt2, if_neg (nf n2), if_neg (nf n3)]
            | [c] => rw [cnt3, if_neg (nf n1), n4]; rfl
            | c :: d :: t' => rfl
          have no : gIsi "str" a = some (.bool false) := by
            refine fit_cases (p := fun a => (∀ x, a ≠ .str x) → gIsi "str" a = some (.bool false)) fa (fun _ => rfl) (fun ho hs => ?_) ns
            cases a with
            | str x => exact absurd rfl (hs x)
            | dict kvs => exact absurd rfl (ho kvs)
            | _ => rfl
          refine gd no ?_
          decreasing_trivial
          rw [z]
          rfl
    | _ =>
      refine gd (a := .bool false) rfl ?_
      decreasing_trivial
      rfl
theorem law_is_condition_ok {k : Nat} {d : PyData} (fd : Fit k d) : Gd (m__law_is_condition [d]) fun q => q = .bool (decide (1 ≤ cnt 6 false d) && decide (cnt 6 false d ≤ 30)) := by
  unfold m__law_is_condition
  refine m_fnP rfl ?_
  unfold b__law_is_condition
  decreasing_trivial
  refine gd_mono (law_pieces_ok 6 8 k false d (by decide) fd) fun q hq => ?_
  subst hq
  decreasing_trivial
  have nn := cnt_nonneg 6 false d
  generalize cnt 6 false d = c at *
  have e : decide (lv c ≤ 30) = (decide (1 ≤ c) && decide (c ≤ 30)) := by
    rw [← Bool.decide_and]
    refine decide_eq_decide.mpr ?_
    unfold lv
    split
    · omega
    · split <;> omega
  rw [e]
end K07

namespace K07
open PySem PySem.Spec PyProof.Rows L2 Dl
theorem len_cps (x : Str) : x.cps.toList.length = x.length := by rw [Array.length_toList]; rfl
theorem len_cat (x y : Str) : (x ++ y).length = x.length + y.length := PySem.Str.length_append x y
/-! ### how long the text of a thing may be: added up over its parts -/
mutual
def wt : PyData → Nat
  | .none => 5
  | .bool _ => 5
  | .int _ => 202
  | .str x => 10 * x.length + 2
  | .list ds => wts ds + 4
  | .tuple ds => wts ds + 4
  | .dict _ => 2
def wts : List PyData → Nat
  | [] => 0
  | d :: r => wt d + 2 + wts r
end
theorem wts_append : ∀ (x y : List PyData), wts (x ++ y) = wts x + wts y
  | [], y => by rw [List.nil_append, wts]; omega
  | d :: r, y => by rw [List.cons_append, wts, wts, wts_append r y]; omega
theorem wts_mem : ∀ {ds : List PyData} {d : PyData}, d ∈ ds → wt d + 2 ≤ wts ds
  | e :: r, d, h => by
    rw [wts]
    rcases List.mem_cons.mp h with rfl | q
    · omega
    · have := wts_mem q
      omega
theorem wts_cut (ds : List PyData) (a b : Nat) : wts ((ds.drop a).take b) ≤ wts ds := by
  have h1 : wts ds = wts (ds.take a) + wts (ds.drop a) := by rw [← wts_append, List.take_append_drop]
  have h2 : wts (ds.drop a) = wts ((ds.drop a).take b) + wts ((ds.drop a).drop b) := by rw [← wts_append, List.take_append_drop]
  omega
theorem wts_rev : ∀ ds : List PyData, wts ds.reverse = wts ds
  | [] => rfl
  | d :: r => by rw [List.reverse_cons, wts_append, wts_rev r, wts, wts, wts]; omega
theorem join_few (ts : List Str) : (Str.join ", " ts).length ≤ piled ts := by
  by_cases h : ts = []
  · subst h
    exact Nat.le_refl 0
  · have := join_length_add ts h
    omega
theorem from_few : ∀ (ts : List Str) (k : Nat) (acc : Str), (textFrom k acc ts).length ≤ acc.length + piled ts
  | [], k, acc => by rw [textFrom, piled_nil]; omega
  | t :: r, k, acc => by
    have a := from_few r (k + 1) (acc ++ (if k > 0 then ", " else "" : String) ++ t)
    have l : ((if k > 0 then ", " else "" : String) : Str).length ≤ 2 := by split <;> decide
    rw [len_cat, len_cat] at a
    rw [textFrom, piled_cons]
    omega
theorem tup_few (ts : List Str) : (tupleText ts).length ≤ piled ts + 4 := by
  unfold tupleText
  rw [len_cat, len_cat]
  have a := join_few ts
  have e1 : ((("(" : String) : Str)).length = 1 := rfl
  have e3 : (((if ts.length == 1 then ",)" else ")" : String) : Str)).length ≤ 2 := by split <;> decide
  omega
theorem list_few (ts : List Str) : (listText ts).length ≤ piled ts + 4 := by
  unfold listText
  rw [len_cat]
  have a := from_few ts 0 "["
  have e1 : ((("[" : String) : Str)).length = 1 := rfl
  have e2 : ((("]" : String) : Str)).length = 1 := rfl
  omega
theorem shown_all : ∀ ds : List PyData, PyData.shownAll ds = ds.map PyData.shown
  | [] => by rw [PyData.shownAll]; rfl
  | d :: r => by rw [PyData.shownAll, shown_all r]; rfl
theorem piled_wts : ∀ ds : List PyData, (∀ d ∈ ds, d.shown.length ≤ wt d) → piled (PyData.shownAll ds) ≤ wts ds
  | [], _ => by rw [PyData.shownAll, piled_nil]; exact Nat.zero_le _
  | d :: r, h => by
    rw [PyData.shownAll, piled_cons, wts]
    have a := h d List.mem_cons_self
    have b := piled_wts r fun e he => h e (List.mem_cons_of_mem _ he)
    omega
theorem fit_wt : ∀ {k : Nat} {d : PyData}, Fit k d → d.shown.length ≤ wt d
  | k, .none, _ => by simp only [PyData.shown, wt]; decide
  | k, .bool b, _ => by simp only [PyData.shown, wt]; cases b <;> decide
  | k, .int i, h => by
    have h' : i.natAbs < 2 ^ 200 := by cases k <;> exact h
    have l : i.natAbs.log2 < 200 := by
      by_cases z : i.natAbs = 0
      · rw [z]; decide
      · exact (Nat.log2_lt z).mpr h'
    have a := int_text_length_le (by decide) l
    simp only [PyData.shown, wt]
    rw [PySem.ofString_length]
    omega
  | k, .str x, h => by
    have h' : x.length ≤ 20 ∧ ∀ c ∈ x.cps.toList, c < 200 := by cases k <;> exact h
    have a := PySem.StrLaws.reprText_len x fun c hc => Nat.lt_of_lt_of_le (h'.2 c hc) (by decide)
    simp only [PyData.shown, wt]
    exact a
  | k, .dict kvs, h => by
    have e : kvs = [] := by cases k <;> exact h
    subst e
    simp only [PyData.shown, PyData.shownKv, wt]
    decide
  | 0, .list ds, h => h.elim
  | 0, .tuple ds, h => h.elim
  | k + 1, .list ds, h => by
    simp only [PyData.shown, wt]
    have a := piled_wts ds fun d hd => fit_wt (h.2 d hd)
    have b := list_few (PyData.shownAll ds)
    omega
  | k + 1, .tuple ds, h => by
    simp only [PyData.shown, wt]
    have a := piled_wts ds fun d hd => fit_wt (h.2 d hd)
    have b := tup_few (PyData.shownAll ds)
    omega
theorem depths_of {m : Nat} : ∀ {ds : List PyData}, (∀ d ∈ ds, d.depth ≤ m) → PyData.depthAll ds ≤ m
  | [], _ => Nat.zero_le _
  | d :: r, h => by
    rw [PyData.depthAll]
    exact Nat.max_le.mpr ⟨h d List.mem_cons_self, depths_of fun e he => h e (List.mem_cons_of_mem _ he)⟩
theorem showables_of : ∀ {ds : List PyData}, (∀ d ∈ ds, d.showable = true) → PyData.showableAll ds = true
  | [], _ => by rw [PyData.showableAll]
  | d :: r, h => by rw [PyData.showableAll, h d List.mem_cons_self, showables_of fun e he => h e (List.mem_cons_of_mem _ he)]; rfl
theorem reals_of : ∀ {ds : List PyData}, (∀ d ∈ ds, realAll d = true) → realAlls ds = true
  | [], _ => by rw [realAlls]
  | d :: r, h => by rw [realAlls, h d List.mem_cons_self, reals_of fun e he => h e (List.mem_cons_of_mem _ he)]; rfl
theorem fit_shows : ∀ {k : Nat} {d : PyData}, Fit k d → d.showable = true ∧ realAll d = true ∧ d.depth ≤ k + 1
  | k, .none, _ => ⟨by rw [PyData.showable], by simp [realAll], by simp [PyData.depth]⟩
  | k, .bool b, _ => ⟨by rw [PyData.showable], by simp [realAll], by simp [PyData.depth]⟩
  | k, .int i, h => by
    have h' : i.natAbs < 2 ^ 200 := by cases k <;> exact h
    refine ⟨?_, by simp [realAll], by simp [PyData.depth]⟩
    rw [PyData.showable]
    refine decide_eq_true ?_
    by_cases z : i.natAbs = 0
    · rw [z]; decide
    · exact Nat.lt_of_lt_of_le ((Nat.log2_lt z).mpr h') (by decide)
  | k, .str x, h => ⟨by rw [PyData.showable], by simp [realAll], by simp [PyData.depth]⟩
  | k, .dict kvs, h => by
    have e : kvs = [] := by cases k <;> exact h
    subst e
    exact ⟨by rw [PyData.showable, PyData.showableKv], by rw [realAll, realKvs], by simp [PyData.depth, PyData.depthKv]⟩
  | 0, .list ds, h => h.elim
  | 0, .tuple ds, h => h.elim
  | k + 1, .list ds, h => by
    refine ⟨?_, ?_, ?_⟩
    · rw [PyData.showable]; exact showables_of fun d hd => (fit_shows (h.2 d hd)).1
    · rw [realAll]; exact reals_of fun d hd => (fit_shows (h.2 d hd)).2.1
    · rw [PyData.depth]
      have := depths_of (m := k + 1) fun d hd => (fit_shows (h.2 d hd)).2.2
      omega
  | k + 1, .tuple ds, h => by
    refine ⟨?_, ?_, ?_⟩
    · rw [PyData.showable]; exact showables_of fun d hd => (fit_shows (h.2 d hd)).1
    · rw [realAll]; exact reals_of fun d hd => (fit_shows (h.2 d hd)).2.1
    · rw [PyData.depth]
      have := depths_of (m := k + 1) fun d hd => (fit_shows (h.2 d hd)).2.2
      omega
theorem repr_fit {k : Nat} {d : PyData} (h : Fit k d) (hk : k ≤ 50) (few : wt d ≤ 10000000) : gRepr [d] = some (.str d.shown) := by
  obtain ⟨h1, h2, h3⟩ := fit_shows h
  have h4 := fit_wt h
  have h5 : (10000000 : Nat) ≤ sizeLine := by decide
  unfold gRepr
  simp only [h1, h2, Bool.true_and]
  rw [if_pos]
  rw [Bool.and_eq_true]
  exact ⟨decide_eq_true (by omega), decide_eq_true (by omega)⟩
end K07

namespace K07
open PySem PySem.Spec PyProof.Rows L2 Dl
local macro_rules | `(tactic| decreasing_trivial_pre_omega) => `(tactic| (first | with_reducible refine s_seq ?_ | with_reducible refine s_if ?_ | with_reducible refine s_set ?_ | with_reducible refine s_setIx ?_ | with_reducible refine s_ret ?_ | with_reducible refine s_nil ?_ | with_reducible refine s_own ?_ | with_reducible refine s_par ?_ | with_reducible refine t_tst ?_ | with_reducible refine t_and ?_ | with_reducible refine t_or ?_ | with_reducible refine t_not ?_ | with_reducible refine t_yes ?_ | with_reducible refine e_op ?_ | with_reducible refine e_un ?_ | with_reducible refine e_chain ?_ | with_reducible refine e_b ?_ | with_reducible refine e_c ?_ | with_reducible refine e_l ?_ | with_reducible refine e_tup ?_ | with_reducible refine e_call ?_ | with_reducible refine e_and ?_ | with_reducible refine e_or ?_ | with_reducible refine e_not ?_ | with_reducible refine e_if ?_ | with_reducible refine e_sl ?_ | with_reducible refine o_n ?_ | with_reducible refine o_s ?_ | with_reducible refine a_nil ?_ | with_reducible refine a_cons ?_ | with_reducible refine f_lst ?_ | with_reducible refine f_call ?_ | with_reducible refine f_itA ?_ | with_reducible refine f_r1 ?_ | with_reducible refine r_seq ?_ | with_reducible refine n_add ?_ | with_reducible refine n_sub ?_ | with_reducible refine n_gt ?_ | with_reducible refine n_ge ?_ | with_reducible refine n_lt ?_ | with_reducible refine n_le ?_ | with_reducible refine e_var (by with_unfolding_all rfl) ?_ | with_reducible refine e_ixc (by with_unfolding_all rfl) ?_ | with_reducible refine e_callM (by with_unfolding_all rfl) ?_ | with_reducible refine s_frz (by with_unfolding_all rfl) ?_ | with_reducible refine s_app (by with_unfolding_all rfl) ?_ | with_reducible refine few_and (by first | decide | (simp only [List.length_cons, List.length_nil, Nat.reduceAdd, Nat.reduceLeDiff])) ?_ | refine Or.inl ⟨by first | with_reducible rfl | with_reducible exact Bool.not_false, ?_⟩ | refine Or.inr ⟨by first | with_reducible rfl | with_reducible exact Bool.not_true, ?_⟩ | refine Exists.intro _ (Exists.intro _ ⟨rfl, rfl, gd rfl ?_⟩) | refine Exists.intro _ ⟨rfl, ?_⟩))
local macro_rules | `(tactic| decreasing_trivial) => `(tactic| repeat decreasing_trivial_pre_omega)
theorem nameB_str {d : PyData} (h : nameB d = true) : ∃ x, d = .str x := by
  cases d with
  | str x => exact ⟨x, rfl⟩
  | _ => cases h
theorem at_ok (ds : List PyData) {r : Int} (h0 : 0 ≤ r) (h : r < ds.length) : ∃ d, atI ds r = some d ∧ d ∈ ds := by
  unfold atI ixN
  rw [if_pos h0, if_pos h, Option.bind_some]
  have l : r.toNat < ds.length := by omega
  exact ⟨ds[r.toNat], by rw [List.getElem?_eq_getElem l], List.getElem_mem l⟩
theorem ix_list (ds : List PyData) {r : Int} {D : PyData → Prop} (h0 : 0 ≤ r) (h : r < ds.length) (k : ∀ d ∈ ds, D d) : Gd (gIx (.list ds) (.int r)) D := by
  obtain ⟨d, e, m⟩ := at_ok ds h0 h
  exact gd (show atI ds r = some d from e) (k d m)
theorem ix_tup (ds : List PyData) {r : Int} {D : PyData → Prop} (h0 : 0 ≤ r) (h : r < ds.length) (k : ∀ d ∈ ds, D d) : Gd (gIx (.tuple ds) (.int r)) D := by
  obtain ⟨d, e, m⟩ := at_ok ds h0 h
  exact gd (show atI ds r = some d from e) (k d m)
theorem ix_str (x : Str) {r : Int} {D : PyData → Prop} (few : x.length ≤ sizeLine) (h0 : 0 ≤ r) (h : r < x.length) (k : ∀ c ∈ x.cps.toList, D (.str ⟨#[c]⟩)) : Gd (gIx (.str x) (.int r)) D := by
  have l : r.toNat < x.cps.toList.length := by rw [len_cps]; omega
  refine gd (a := .str ⟨#[x.cps.toList[r.toNat]]⟩) ?_ (k _ (List.getElem_mem l))
  show (if x.length ≤ sizeLine then _ else _) = _
  rw [if_pos few]
  unfold atI ixN
  rw [if_pos h0, if_pos (by rw [len_cps]; exact h), Option.bind_some, List.getElem?_eq_getElem l]
  rfl
theorem cat_str {x y : Str} {D : PyData → Prop} (few : x.length + y.length ≤ 1000) (k : D (.str (x ++ y))) : Gd (gAdd (.str x) (.str y)) D :=
  gd (show (if x.length + y.length ≤ sizeLine then _ else _) = _ from if_pos (Nat.le_trans few (by decide))) k
theorem cat_list {x y : List PyData} {D : PyData → Prop} (few : x.length + y.length ≤ 1000) (k : D (.list (x ++ y))) : Gd (gAdd (.list x) (.list y)) D :=
  gd (show (if x.length + y.length ≤ sizeLine then _ else _) = _ from if_pos (Nat.le_trans few (by decide))) k
theorem cat_tup {x y : List PyData} {D : PyData → Prop} (few : x.length + y.length ≤ 1000) (k : D (.tuple (x ++ y))) : Gd (gAdd (.tuple x) (.tuple y)) D :=
  gd (show (if x.length + y.length ≤ sizeLine then _ else _) = _ from if_pos (Nat.le_trans few (by decide))) k
theorem cps_cat (x y : Str) : (x ++ y).cps.toList = x.cps.toList ++ y.cps.toList := by rw [PySem.Str.cps_append, Array.toList_append]
theorem len_one (c : Nat) : (⟨#[c]⟩ : Str).length = 1 := rfl
/-- what the pot stands at -/
theorem pot_at {n : Nat} {pd : List PyData} (h : Pot n pd) {m : Int} (hn : n < 1000000) (hm : 1 ≤ m) (hM : m ≤ 10000000) {D : PyData × List PyData → Prop} (k : ∀ (r : Int) (p : List PyData), 0 ≤ r → r < m → Pot (n + 1) p → D (.int r, p)) : Gd (m__law_take pd [.int m]) D :=
  gd_mono (take_ok h hn hm hM) fun q hq => by
    obtain ⟨d, p⟩ := q
    obtain ⟨r, e, h0, h1, hp⟩ := hq
    have e' : d = .int r := e
    subst e'
    exact k r p h0 h1 hp
def nearWords : List PyData := [.str "isa", .str "no", .str "a", .str "zzzzzzzz", .str "ends", .str "ifs", .str "hase", .str "fro", .str "t", .str "picks", .str "an", .str "counts"]
theorem near_names : ∀ d ∈ nearWords, nameB d = true := by
  have e : nearWords.all nameB = true := by decide +kernel
  exact fun d hd => List.all_eq_true.mp e d hd
def withQ : PyData → PyData
  | .str x => .str (x ++ "q")
  | d => d
theorem word_q : ∀ d ∈ words, nameB (withQ d) = true := by
  have e : (words.all fun d => nameB (withQ d)) = true := by decide +kernel
  exact fun d hd => List.all_eq_true.mp e d hd
theorem word_len : ∀ d ∈ words, ∃ x, d = .str x ∧ x.length ≤ 5 := by
  have e : (words.all fun d => match d with | .str x => decide (x.length ≤ 5) | _ => false) = true := by decide +kernel
  intro d hd
  have q := List.all_eq_true.mp e d hd
  cases d with
  | str x => exact ⟨x, rfl, of_decide_eq_true q⟩
  | _ => cases q
theorem inWords_mem {x : Str} (h : inWords (.str x) = true) : PyData.str x ∈ words := by
  unfold inWords at h
  obtain ⟨d, hd, e⟩ := List.any_eq_true.mp h
  obtain ⟨y, rfl, _⟩ := word_len d hd
  have e' : (y == x) = true := e
  rw [beq_iff_eq.mp e'] at hd
  exact hd
theorem nameB_of {x : Str} (l1 : 1 ≤ x.length) (l2 : x.length ≤ 8) (nw : inWords (.str x) = false) (al : ∀ c ∈ x.cps.toList, letter c = true) : nameB (.str x) = true := by
  have e : x.cps.toList.all letter = true := List.all_eq_true.mpr al
  unfold nameB
  simp [l1, l2, nw, al]
theorem nameB_parts {x : Str} (h : nameB (.str x) = true) : 1 ≤ x.length ∧ x.length ≤ 8 ∧ ∀ c ∈ x.cps.toList, c < 200 := by
  unfold nameB at h
  simp only [Bool.and_eq_true, decide_eq_true_eq, List.all_eq_true] at h
  refine ⟨h.1.1, h.1.2, fun c hc => ?_⟩
  have q := h.2.2 c hc
  unfold letter at q
  simp at q
  omega
theorem name_ok {n : Nat} {pd : List PyData} (h : Pot n pd) (hn : n < 100000) : Gd (m__law_name pd []) fun q => ∃ x, q.1 = .str x ∧ nameB (.str x) = true ∧ Pot (n + 20) q.2 := by
  unfold m__law_name
  refine m_fnM rfl ?_
  unfold b__law_name
  decreasing_trivial
  refine pot_at h (by omega) (by decide) (by decide) fun r p h0 h1 hp => ?_
  decreasing_trivial
  refine gd (eq_int _ _) ?_
  decreasing_trivial
  cases t : (r == 0) with
  | true =>
    decreasing_trivial
    refine pot_at hp (by omega) (by decide) (by decide) fun r2 p2 h02 h12 hp2 => ?_
    decreasing_trivial
    refine ix_list nearWords h02 (by exact h12) fun d hd => ?_
    have nm := near_names d hd
    obtain ⟨x, rfl⟩ := nameB_str nm
    refine ⟨_, rfl, x, rfl, nm, hp2.mono (by omega)⟩
  | false =>
    decreasing_trivial
    refine s_for (I := fun ds s => ∃ (pd : List PyData) (x : Str) (v : SV), s = [.pot pd, .dat (.str "abcdefghijklmnopqrstuvwxyz"), .dat (.str x), v] ∧ Pot (n + 10 - ds.length) pd ∧ 1 ≤ x.length + ds.length ∧ x.length + ds.length ≤ 8 ∧ ∀ c ∈ x.cps.toList, letter c = true) ?_ (fun d ds s hI => ?_) (fun s hI => ?_)
    · decreasing_trivial
      refine pot_at hp (by omega) (by decide) (by decide) fun r2 p2 h02 h12 hp2 => ?_
      decreasing_trivial
      refine ⟨by omega, by omega, p2, "", _, rfl, ?_⟩
      have l : (Dl.rng 0 (1 + r2)).length = (1 + r2).toNat := by
        unfold Dl.rng
        rw [List.length_map, List.length_range]
        congr 1
        omega
      rw [l]
      refine ⟨hp2.mono (by omega), ?_, ?_, fun c hc => ?_⟩
      · show 1 ≤ 0 + _
        omega
      · show 0 + _ ≤ 8
        omega
      · have : ("" : Str).cps.toList = [] := rfl
        rw [this] at hc
        cases hc
    · obtain ⟨pd, x, v, rfl, hp, l1, l2, al⟩ := hI
      rw [List.length_cons] at hp l1 l2
      refine ⟨_, rfl, ?_⟩
      decreasing_trivial
      refine pot_at hp (by omega) (by decide) (by decide) fun r2 p2 h02 h12 hp2 => ?_
      decreasing_trivial
      refine ix_str "abcdefghijklmnopqrstuvwxyz" (by decide) h02 (by exact h12) fun c hc => ?_
      decreasing_trivial
      have lc : letter c = true := by
        rw [letters_range, List.mem_range'_1] at hc
        unfold letter
        simp
        omega
      refine cat_str (by rw [len_one]; omega) ?_
      refine ⟨p2, _, _, rfl, hp2.mono (by omega), ?_, ?_, fun c' hc' => ?_⟩
      · rw [len_cat, len_one]; omega
      · rw [len_cat, len_one]; omega
      · rw [cps_cat] at hc'
        rcases List.mem_append.mp hc' with q | q
        · exact al c' q
        · have q' : c' ∈ [c] := q
          rw [List.mem_singleton.mp q']
          exact lc
    · obtain ⟨pd, x, v, rfl, hp, l1, l2, al⟩ := hI
      rw [List.length_nil] at hp l1 l2
      decreasing_trivial
      refine gd_mono words_ok fun r hr => ?_
      subst hr
      refine gd (in_words' x) ?_
      decreasing_trivial
      cases w : inWords (.str x) with
      | true =>
        have nm := word_q _ (inWords_mem w)
        decreasing_trivial
        refine cat_str (by
          have : ("q" : Str).length = 1 := rfl
          omega) ?_
        decreasing_trivial
        exact ⟨nm, hp.mono (by omega)⟩
      | false =>
        decreasing_trivial
        exact ⟨nameB_of l1 l2 w al, hp.mono (by omega)⟩

/-- data that the law bends: numbers, short texts, tuples of few -/
def Pl : Nat → PyData → Prop
  | _, .int i => 0 ≤ i ∧ i ≤ 1000000
  | _, .str x => x.length ≤ 8 ∧ ∀ c ∈ x.cps.toList, c < 200
  | k + 1, .tuple ds => ds.length ≤ 6 ∧ ∀ d ∈ ds, Pl k d
  | _, _ => False
theorem pl_str (k : Nat) {x : Str} (h : x.length ≤ 8 ∧ ∀ c ∈ x.cps.toList, c < 200) : Pl k (.str x) := by cases k <;> exact h
theorem pl_int (k : Nat) {i : Int} (h : 0 ≤ i ∧ i ≤ 1000000) : Pl k (.int i) := by cases k <;> exact h
theorem pl_name (k : Nat) {x : Str} (h : nameB (.str x) = true) : Pl k (.str x) := pl_str k ⟨(nameB_parts h).2.1, (nameB_parts h).2.2⟩
theorem fit_str (k : Nat) {x : Str} (h : x.length ≤ 20 ∧ ∀ c ∈ x.cps.toList, c < 200) : Fit k (.str x) := by cases k <;> exact h
theorem fit_int (k : Nat) {i : Int} (h : i.natAbs < 2 ^ 200) : Fit k (.int i) := by cases k <;> exact h
theorem fit_bool (k : Nat) (b : Bool) : Fit k (.bool b) := by cases k <;> trivial
theorem fit_none (k : Nat) : Fit k .none := by cases k <;> trivial
theorem fit_dict (k : Nat) : Fit k (.dict []) := by cases k <;> rfl
theorem fit_up : ∀ {k : Nat} {d : PyData}, Fit k d → Fit (k + 1) d
  | k, .none, _ => fit_none _
  | k, .bool b, _ => fit_bool _ b
  | k, .int i, h => fit_int _ (by cases k <;> exact h)
  | k, .str x, h => fit_str _ (by cases k <;> exact h)
  | k, .dict kvs, h => by
    have e : kvs = [] := by cases k <;> exact h
    subst e
    exact fit_dict _
  | 0, .list ds, h => h.elim
  | 0, .tuple ds, h => h.elim
  | k + 1, .list ds, h => ⟨h.1, fun d hd => fit_up (h.2 d hd)⟩
  | k + 1, .tuple ds, h => ⟨h.1, fun d hd => fit_up (h.2 d hd)⟩
theorem fit_le {j k : Nat} {d : PyData} (h : Fit j d) (l : j ≤ k) : Fit k d := by
  induction l with
  | refl => exact h
  | step _ ih => exact fit_up ih
theorem fit_pl : ∀ {k : Nat} {d : PyData}, Pl k d → Fit k d
  | k, .int i, h => fit_int _ (by
    have h' : 0 ≤ i ∧ i ≤ 1000000 := by cases k <;> exact h
    have : (1000000 : Nat) < 2 ^ 200 := by decide
    omega)
  | k, .str x, h => fit_str _ (by
    have h' : x.length ≤ 8 ∧ ∀ c ∈ x.cps.toList, c < 200 := by cases k <;> exact h
    exact ⟨by omega, h'.2⟩)
  | 0, .tuple ds, h => h.elim
  | k + 1, .tuple ds, h => ⟨Nat.le_trans h.1 (by decide), fun d hd => fit_pl (h.2 d hd)⟩
  | 0, .none, h => h.elim
  | 0, .bool _, h => h.elim
  | 0, .list _, h => h.elim
  | 0, .dict _, h => h.elim
  | k + 1, .none, h => h.elim
  | k + 1, .bool _, h => h.elim
  | k + 1, .list _, h => h.elim
  | k + 1, .dict _, h => h.elim
theorem neg_ok {i : Int} {D : PyData → Prop} (h : D (.int (-i))) : Gd (gNeg (.int i)) D := gd rfl h
theorem fit_nil (k : Nat) : Fit (k + 1) (.tuple []) := ⟨by decide, fun d hd => by cases hd⟩
theorem fit_nilL (k : Nat) : Fit (k + 1) (.list []) := ⟨by decide, fun d hd => by cases hd⟩
theorem odd_ok {n : Nat} {pd : List PyData} (h : Pot n pd) (hn : n < 950000) : Gd (m__law_odd pd []) fun q => (Fit 2 q.1 ∧ wt q.1 ≤ 300) ∧ Pot (n + 1) q.2 := by
  unfold m__law_odd
  refine m_fnM rfl ?_
  unfold b__law_odd
  decreasing_trivial
  refine neg_ok ?_
  decreasing_trivial
  refine million ?_
  decreasing_trivial
  refine n_pow (b := 39) 4 (by decide) (by decide) (by decide) (by decide) fun _ => ?_
  decreasing_trivial
  refine pot_at h (by omega) (by decide) (by decide) fun r p h0 h1 hp => ?_
  decreasing_trivial
  refine ix_list _ h0 (by exact h1) fun d hd => ?_
  refine ⟨_, rfl, ?_, hp⟩
  simp only [List.mem_cons, List.not_mem_nil, or_false] at hd
  rcases hd with rfl | rfl | rfl | rfl | rfl | rfl | rfl | rfl | rfl | rfl | rfl | rfl | rfl | rfl | rfl | rfl | rfl | rfl | rfl | rfl | rfl | rfl
  all_goals refine ⟨?_, by simp only [wt, wts]; decide⟩
  all_goals first
    | exact fit_none _
    | exact fit_bool _ _
    | exact fit_dict _
    | exact fit_str _ ⟨by decide, by decide⟩
    | exact fit_int _ (by decide +kernel)
    | exact fit_nil _
    | exact fit_nilL _
    | exact ⟨by decide, fun d hd => (List.mem_singleton.mp hd) ▸ fit_str _ ⟨by decide, by decide⟩⟩
    | exact ⟨by decide, fun d hd => (List.mem_singleton.mp hd) ▸ fit_nil _⟩
theorem sl_str {x : Str} {lo hi : Option Int} {D : PyData → Prop} (few : x.length ≤ 1000) (k : ∀ y : Str, y.length ≤ x.length → (∀ c ∈ y.cps.toList, c ∈ x.cps.toList) → D (.str y)) : Gd (gSl (.str x) lo hi) D := by
  refine gd (show (if x.length ≤ sizeLine then _ else _) = _ from if_pos (Nat.le_trans few (by decide))) (k _ ?_ ?_)
  · unfold cutS
    rw [← len_cps, ← len_cps]
    simp only [List.length_take, List.length_drop]
    omega
  · intro c hc
    unfold cutS at hc
    simp only at hc
    exact List.mem_of_mem_drop (List.mem_of_mem_take hc)
theorem fit_tup {k : Nat} {es : List PyData} (l : es.length ≤ 16) (h : ∀ d ∈ es, Fit k d) : Fit (k + 1) (.tuple es) := ⟨l, h⟩
theorem fit_lst {k : Nat} {es : List PyData} (l : es.length ≤ 16) (h : ∀ d ∈ es, Fit k d) : Fit (k + 1) (.list es) := ⟨l, h⟩
theorem noDcts_of : ∀ {ds : List PyData}, (∀ d ∈ ds, noDct d = true) → noDcts ds = true
  | [], _ => rfl
  | d :: r, h => by rw [noDcts, h d List.mem_cons_self, noDcts_of fun e he => h e (List.mem_cons_of_mem _ he)]; rfl
theorem lays_of : ∀ {ds : List PyData}, (∀ d ∈ ds, d.canLay0 = true) → PyData.canLayAll0 ds = true
  | [], _ => rfl
  | d :: r, h => by rw [PyData.canLayAll0, h d List.mem_cons_self, lays_of fun e he => h e (List.mem_cons_of_mem _ he)]; rfl
theorem pl_plain : ∀ {k : Nat} {d : PyData}, Pl k d → noDct d = true ∧ d.canLay0 = true ∧ d.depth ≤ k + 1
  | k, .int i, _ => ⟨rfl, rfl, by simp [PyData.depth]⟩
  | k, .str x, h => by
    have h' : x.length ≤ 8 ∧ ∀ c ∈ x.cps.toList, c < 200 := by cases k <;> exact h
    refine ⟨rfl, ?_, by simp [PyData.depth]⟩
    show PyData.strOk x = true
    unfold PyData.strOk
    rw [Array.all_eq_true]
    intro i hi
    have := h'.2 _ (Array.mem_toList_iff.mpr (Array.getElem_mem hi))
    simp
    omega
  | 0, .tuple ds, h => h.elim
  | k + 1, .tuple ds, h => by
    refine ⟨?_, ?_, ?_⟩
    · rw [noDct]; exact noDcts_of fun d hd => (pl_plain (h.2 d hd)).1
    · rw [PyData.canLay0]; exact lays_of fun d hd => (pl_plain (h.2 d hd)).2.1
    · rw [PyData.depth]
      have := depths_of (m := k + 1) fun d hd => (pl_plain (h.2 d hd)).2.2
      omega
  | 0, .none, h => h.elim
  | 0, .bool _, h => h.elim
  | 0, .list _, h => h.elim
  | 0, .dict _, h => h.elim
  | k + 1, .none, h => h.elim
  | k + 1, .bool _, h => h.elim
  | k + 1, .list _, h => h.elim
  | k + 1, .dict _, h => h.elim
theorem ne_empty {k : Nat} {ds : List PyData} (h : Pl k (.tuple ds)) (hk : k ≤ 60) : gNe (.tuple ds) (.tuple []) = some (.bool (!ds.isEmpty)) := by
  obtain ⟨h1, h2, h3⟩ := pl_plain h
  have sh : SeqAt.shaped (.tuple ds) = true := by
    unfold SeqAt.shaped
    rw [h2, Bool.true_and]
    exact decide_eq_true (by omega)
  have e : PyData.eqv (.tuple ds) (.tuple []) = ds.isEmpty := by cases ds <;> rfl
  unfold gNe
  rw [if_neg (by simp [isStrD]), if_pos ⟨⟨h1, rfl⟩, sh, by decide⟩, e]

theorem sl_cut {ds : List PyData} {lo hi : Option Int} {D : PyData → Prop} (k : ∀ es : List PyData, es.length ≤ ds.length → (∀ d ∈ es, d ∈ ds) → wts es ≤ wts ds → D (.tuple es)) : Gd (gSl (.tuple ds) lo hi) D := by
  refine gd rfl (k _ ?_ ?_ ?_)
  · unfold Dl.cutD
    simp only [List.length_take, List.length_drop]
    omega
  · intro d hd
    unfold Dl.cutD at hd
    exact List.mem_of_mem_drop (List.mem_of_mem_take hd)
  · unfold Dl.cutD
    exact wts_cut ds _ _
theorem sl_take {ds : List PyData} {n : Nat} {D : PyData → Prop} (k : D (.tuple (ds.take n))) : Gd (gSl (.tuple ds) none (some (n : Int))) D := by
  have e : Dl.cutD ds none (some (n : Int)) = ds.take n := by
    unfold Dl.cutD
    rw [HT.sIx_none, HT.sIx_nat, List.drop_zero, Nat.sub_zero]
    by_cases h : n ≤ ds.length
    · rw [Nat.min_eq_left h]
    · rw [Nat.min_eq_right (by omega), List.take_of_length_le (Nat.le_refl _), List.take_of_length_le (by omega)]
  exact gd (show some (PyData.tuple (Dl.cutD ds none (some (n : Int)))) = some (.tuple (ds.take n)) by rw [e]) k
theorem sl_drop {ds : List PyData} {n : Nat} {D : PyData → Prop} (k : D (.tuple (ds.drop n))) : Gd (gSl (.tuple ds) (some (n : Int)) none) D := by
  have e : Dl.cutD ds (some (n : Int)) none = ds.drop n := by
    unfold Dl.cutD
    rw [HT.sIx_none, HT.sIx_nat]
    by_cases h : n ≤ ds.length
    · rw [Nat.min_eq_left h]
      exact List.take_of_length_le (by rw [List.length_drop]; exact Nat.le_refl _)
    · rw [Nat.min_eq_right (by omega), List.drop_eq_nil_of_le (Nat.le_refl _), List.drop_eq_nil_of_le (by omega), List.take_nil]
  exact gd (show some (PyData.tuple (Dl.cutD ds (some (n : Int)) none)) = some (.tuple (ds.drop n)) by rw [e]) k
theorem wts_at {ds : List PyData} {n : Nat} (h : n < ds.length) : wts (ds.take n) + (wt ds[n] + 2) + wts (ds.drop (n + 1)) = wts ds := by
  have e : wts ds = wts (ds.take n) + wts (ds.drop n) := by rw [← wts_append, List.take_append_drop]
  rw [List.drop_eq_getElem_cons h, wts] at e
  omega
theorem ix_at (ds : List PyData) {n : Nat} (h : n < ds.length) : gIx (.tuple ds) (.int (n : Int)) = some ds[n] := by
  show atI ds (n : Int) = some ds[n]
  unfold atI ixN
  rw [if_pos (by omega), if_pos (by omega), Option.bind_some, Int.toNat_natCast, List.getElem?_eq_getElem h]
end K07

namespace K07
open PySem PySem.Spec PyProof.Rows L2 Dl
local macro_rules | `(tactic| decreasing_trivial_pre_omega) => `(tactic| (first | with_reducible refine s_seq ?_ | with_reducible refine s_if ?_ | with_reducible refine s_set ?_ | with_reducible refine s_setIx ?_ | with_reducible refine s_ret ?_ | with_reducible refine s_nil ?_ | with_reducible refine s_own ?_ | with_reducible refine s_par ?_ | with_reducible refine t_tst ?_ | with_reducible refine t_and ?_ | with_reducible refine t_or ?_ | with_reducible refine t_not ?_ | with_reducible refine t_yes ?_ | with_reducible refine e_op ?_ | with_reducible refine e_un ?_ | with_reducible refine e_chain ?_ | with_reducible refine e_b ?_ | with_reducible refine e_c ?_ | with_reducible refine e_l ?_ | with_reducible refine e_tup ?_ | with_reducible refine e_call ?_ | with_reducible refine e_and ?_ | with_reducible refine e_or ?_ | with_reducible refine e_not ?_ | with_reducible refine e_if ?_ | with_reducible refine e_sl ?_ | with_reducible refine o_n ?_ | with_reducible refine o_s ?_ | with_reducible refine a_nil ?_ | with_reducible refine a_cons ?_ | with_reducible refine f_lst ?_ | with_reducible refine f_call ?_ | with_reducible refine f_itA ?_ | with_reducible refine f_r1 ?_ | with_reducible refine r_seq ?_ | with_reducible refine n_add ?_ | with_reducible refine n_sub ?_ | with_reducible refine n_gt ?_ | with_reducible refine n_ge ?_ | with_reducible refine n_lt ?_ | with_reducible refine n_le ?_ | with_reducible refine e_var (by with_unfolding_all rfl) ?_ | with_reducible refine e_ixc (by with_unfolding_all rfl) ?_ | with_reducible refine e_callM (by with_unfolding_all rfl) ?_ | with_reducible refine s_frz (by with_unfolding_all rfl) ?_ | with_reducible refine s_app (by with_unfolding_all rfl) ?_ | with_reducible refine few_and (by first | decide | (simp only [List.length_cons, List.length_nil, Nat.reduceAdd, Nat.reduceLeDiff])) ?_ | refine Or.inl ⟨by first | with_reducible rfl | with_reducible exact Bool.not_false, ?_⟩ | refine Or.inr ⟨by first | with_reducible rfl | with_reducible exact Bool.not_true, ?_⟩ | refine Exists.intro _ (Exists.intro _ ⟨rfl, rfl, gd rfl ?_⟩) | refine Exists.intro _ ⟨rfl, ?_⟩))
local macro_rules | `(tactic| decreasing_trivial) => `(tactic| repeat decreasing_trivial_pre_omega)
def tailB : DS := (sSeq (sSet 7 (dL (fLst (aCons (dOp gAdd (dSl (dVar 1) oN (oS (dVar 5))) (dSl (dVar 1) (oS (dOp gAdd (dVar 5) (dC (.int 1)))) oN)) (aCons (dOp gAdd (dSl (dVar 1) oN (oS (dOp gAdd (dVar 5) (dC (.int 1))))) (dSl (dVar 1) (oS (dVar 5)) oN)) aNil)))))
  (sSeq (sSet 7 (dOp gAdd (dVar 7) (dL (fLst (aCons (dOp gAdd (dOp gAdd (dSl (dVar 1) oN (oS (dVar 5))) (dTup (aCons (dVar 4) aNil))) (dSl (dVar 1) (oS (dVar 5)) oN)) (aCons (dUn gRev (dVar 1)) (aCons (dB gList (aCons (dVar 1) aNil)) aNil)))))))
  (sRet (dOp gIx (dOp gAdd (dVar 7) (dL (fLst (aCons (dOp gAdd (dSl (dVar 1) (oS (dVar 5)) oN) (dSl (dVar 1) oN (oS (dVar 5)))) (aCons (dOp gAdd (dVar 1) (dTup (aCons (dVar 4) aNil))) (aCons (dVar 4) aNil)))))) (dVar 3)))))
theorem tail_ok {j n : Nat} {ds p : List PyData} {odd : PyData} {z w at_ : Int} {s : Sl} (hs : s = [.pot p, .dat (.tuple ds), .dat (.int z), .dat (.int w), .dat odd, .dat (.int at_), .no, .no]) (few : ds.length ≤ 6) (el : ∀ d ∈ ds, Pl j d) (fo : Fit 2 odd) (wo : wt odd ≤ 300) (hp : Pot n p) (w0 : 0 ≤ w) (w1 : w < 8) :
    Gs (tailB s) (fun s => ∃ pd', potOf s[0]? = some pd' ∧ (Fit (j + 1 + 2) PyData.none ∧ wt PyData.none ≤ 2 * wt (.tuple ds) + 600) ∧ Pot n pd') fun d s => ∃ pd', potOf s[0]? = some pd' ∧ (Fit (j + 1 + 2) d ∧ wt d ≤ 2 * wt (.tuple ds) + 600) ∧ Pot n pd' := by
  subst hs
  unfold tailB
  have inn : ∀ d ∈ ds, Fit (j + 2) d := fun d hd => fit_le (fit_pl (el d hd)) (by omega)
  have fo' : Fit (j + 2) odd := fit_le fo (by omega)
  decreasing_trivial
  refine sl_cut fun a1 la1 ma1 wa1 => ?_
  decreasing_trivial
  refine sl_cut fun a2 la2 ma2 wa2 => ?_
  refine cat_tup (by omega) ?_
  decreasing_trivial
  refine sl_cut fun a3 la3 ma3 wa3 => ?_
  decreasing_trivial
  refine sl_cut fun a4 la4 ma4 wa4 => ?_
  refine cat_tup (by omega) ?_
  decreasing_trivial
  refine sl_cut fun a5 la5 ma5 wa5 => ?_
  decreasing_trivial
  refine cat_tup (by show _ + 1 ≤ _; omega) ?_
  decreasing_trivial
  refine sl_cut fun a6 la6 ma6 wa6 => ?_
  refine cat_tup (by rw [List.length_append]; show _ + 1 + _ ≤ _; omega) ?_
  decreasing_trivial
  refine gd (a := .tuple ds.reverse) rfl ?_
  decreasing_trivial
  refine gd (a := .list ds) rfl ?_
  decreasing_trivial
  refine cat_list (by show 2 + 3 ≤ _; decide) ?_
  decreasing_trivial
  refine sl_cut fun a7 la7 ma7 wa7 => ?_
  decreasing_trivial
  refine sl_cut fun a8 la8 ma8 wa8 => ?_
  refine cat_tup (by omega) ?_
  decreasing_trivial
  refine cat_tup (by show _ + 1 ≤ _; omega) ?_
  decreasing_trivial
  refine cat_list (by show 5 + 3 ≤ _; decide) ?_
  decreasing_trivial
  refine ix_list _ w0 (by exact w1) fun d hd => ?_
  refine ⟨_, rfl, ?_, hp⟩
  have of2 : ∀ {x y : List PyData}, (∀ d ∈ x, d ∈ ds) → (∀ d ∈ y, d ∈ ds) → ∀ d ∈ x ++ y, Fit (j + 2) d := fun h1 h2 d hd => by
    rcases List.mem_append.mp hd with q | q
    · exact inn d (h1 d q)
    · exact inn d (h2 d q)
  simp only [List.mem_append, List.mem_cons, List.not_mem_nil, or_false] at hd
  rcases hd with ((rfl | rfl) | rfl | rfl | rfl) | rfl | rfl | rfl
  · exact ⟨fit_tup (by rw [List.length_append]; omega) (of2 ma1 ma2), by simp only [wt, wts_append]; omega⟩
  · exact ⟨fit_tup (by rw [List.length_append]; omega) (of2 ma3 ma4), by simp only [wt, wts_append]; omega⟩
  · refine ⟨fit_tup (by rw [List.length_append, List.length_append, List.length_singleton]; omega) fun d hd => ?_, by simp only [wt, wts_append, wts]; omega⟩
    rcases List.mem_append.mp hd with q | q
    · rcases List.mem_append.mp q with q | q
      · exact inn d (ma5 d q)
      · rw [List.mem_singleton.mp q]; exact fo'
    · exact inn d (ma6 d q)
  · exact ⟨fit_tup (by rw [List.length_reverse]; omega) fun d hd => inn d (List.mem_reverse.mp hd), by simp only [wt, wts_rev]; omega⟩
  · exact ⟨fit_lst (by omega) inn, by simp only [wt]; omega⟩
  · exact ⟨fit_tup (by rw [List.length_append]; omega) (of2 ma7 ma8), by simp only [wt, wts_append]; omega⟩
  · refine ⟨fit_tup (by rw [List.length_append, List.length_singleton]; omega) fun d hd => ?_, by simp only [wt, wts_append, wts]; omega⟩
    rcases List.mem_append.mp hd with q | q
    · exact inn d q
    · rw [List.mem_singleton.mp q]; exact fo'
  · exact ⟨fit_le fo (by omega), by omega⟩
theorem fit_cat {k : Nat} {x y : Str} (hx : x.length ≤ 9 ∧ ∀ c ∈ x.cps.toList, c < 200) (hy : y.length ≤ 9 ∧ ∀ c ∈ y.cps.toList, c < 200) : Fit k (.str (x ++ y)) := fit_str k ⟨by rw [len_cat]; omega, fun c hc => by
  rw [cps_cat] at hc
  exact (List.mem_append.mp hc).elim (hx.2 c) (hy.2 c)⟩
theorem bent_body (self : List PyData → List PyData → Option (PyData × List PyData)) (deep : Nat)
    (IH : ∀ m, deep = m + 1 → ∀ (k n : Nat) (d : PyData) (pd : List PyData), k ≤ 60 → Pl k d → Pot n pd → n + 10 * m < 900000 → Gd (self pd [d, .int (m : Nat)]) fun q => (Fit (k + 2) q.1 ∧ wt q.1 ≤ 2 * wt d + 600) ∧ Pot (n + 10 * (m + 1)) q.2)
    {k n : Nat} {d : PyData} {pd : List PyData} (hk : k ≤ 60) (pl : Pl k d) (h : Pot n pd) (hn : n + 10 * deep < 900000) :
    Gd (fnM ["_law_pot_here", "_law_thing", "_law_deep", "_law_way", "_law_odd_here", "_law_at", "_law_sign", "_law_some"] 3 (b__law_bent self) pd [d, .int (deep : Nat)]) fun q => (Fit (k + 2) q.1 ∧ wt q.1 ≤ 2 * wt d + 600) ∧ Pot (n + 10 * (deep + 1)) q.2 := by
  refine m_fnM rfl ?_
  unfold b__law_bent
  decreasing_trivial
  refine pot_at h (by omega) (by decide) (by decide) fun w p1 w0 w1 hp1 => ?_
  decreasing_trivial
  refine gd_mono (odd_ok hp1 (by omega)) fun q hq => ?_
  obtain ⟨odd, p2⟩ := q
  have fodd : Fit 2 odd := hq.1.1
  have wodd : wt odd ≤ 300 := hq.1.2
  have hp2 : Pot (n + 2) p2 := hq.2
  clear hq
  have fo : Fit (k + 2) odd := fit_le fodd (by omega)
  have done2 : Pot (n + 10 * (deep + 1)) p2 := hp2.mono (by omega)
  decreasing_trivial
  cases d with
  | none => cases k <;> exact pl.elim
  | bool b => cases k <;> exact pl.elim
  | list ds => cases k <;> exact pl.elim
  | dict ds => cases k <;> exact pl.elim
  | int i =>
    have hi : 0 ≤ i ∧ i ≤ 1000000 := by cases k <;> exact pl
    refine gd (a := .bool false) rfl ?_
    decreasing_trivial
    refine gd (a := .bool false) rfl ?_
    decreasing_trivial
    refine gd (a := .bool true) rfl ?_
    decreasing_trivial
    refine gd (a := .bool false) rfl ?_
    decreasing_trivial
    by_cases c : 5 < w
    · refine .inl ⟨decide_eq_true c, ?_⟩
      decreasing_trivial
      exact ⟨⟨fo, by show wt odd ≤ _; omega⟩, done2⟩
    · refine .inr ⟨decide_eq_false c, ?_⟩
      decreasing_trivial
      refine neg_ok ?_
      decreasing_trivial
      refine neg_ok ?_
      decreasing_trivial
      refine million ?_
      decreasing_trivial
      refine million ?_
      refine neg_ok ?_
      decreasing_trivial
      refine ix_list _ w0 (by show w < 6; omega) fun d hd => ?_
      have dj : ∃ j : Int, d = .int j ∧ -1000000 ≤ j ∧ j ≤ 1000000 := by
        simp only [List.mem_cons, List.not_mem_nil, or_false] at hd
        rcases hd with rfl | rfl | rfl | rfl | rfl | rfl <;> exact ⟨_, rfl, by decide, by decide⟩
      obtain ⟨j, rfl, j0, j1⟩ := dj
      decreasing_trivial
      refine ⟨⟨fit_int _ ?_, by simp only [wt]; omega⟩, done2⟩
      have : (2000000 : Nat) < 2 ^ 200 := by decide
      omega
  | str x =>
    have hx : x.length ≤ 8 ∧ ∀ c ∈ x.cps.toList, c < 200 := by cases k <;> exact pl
    refine gd (a := .bool true) rfl ?_
    decreasing_trivial
    by_cases c : w < 6
    · refine .inl ⟨decide_eq_true c, ?_⟩
      decreasing_trivial
      have len : gLen [.str x] = some (.int (x.length : Nat)) := by
        unfold gLen
        exact if_pos (Nat.le_trans hx.1 (by decide))
      refine gd len ?_
      decreasing_trivial
      refine pot_at hp2 (by omega) (by omega) (by omega) fun at_ p3 a0 a1 hp3 => ?_
      decreasing_trivial
      refine ix_list _ w0 (by exact c) fun sg hd => ?_
      have sj : ∃ y : Str, sg = .str y ∧ y.length = 1 ∧ ∀ c ∈ y.cps.toList, c < 200 := by
        simp only [List.mem_cons, List.not_mem_nil, or_false] at hd
        rcases hd with rfl | rfl | rfl | rfl | rfl | rfl <;> exact ⟨_, rfl, by decide, by decide⟩
      obtain ⟨y, rfl, ly, cy⟩ := sj
      decreasing_trivial
      refine sl_str (by omega) fun b1 lb1 mb1 => ?_
      decreasing_trivial
      refine cat_str (by omega) ?_
      decreasing_trivial
      refine sl_str (by omega) fun b2 lb2 mb2 => ?_
      refine cat_str (by rw [len_cat]; omega) ?_
      decreasing_trivial
      refine sl_str (by omega) fun b3 lb3 mb3 => ?_
      decreasing_trivial
      refine sl_str (by omega) fun b4 lb4 mb4 => ?_
      refine cat_str (by omega) ?_
      decreasing_trivial
      refine pot_at hp3 (by omega) (by decide) (by decide) fun e p4 e0 e1 hp4 => ?_
      decreasing_trivial
      refine ix_list _ e0 (by exact e1) fun d hd => ?_
      refine ⟨_, rfl, ?_, hp4.mono (by omega)⟩
      simp only [List.mem_cons, List.not_mem_nil, or_false] at hd
      rcases hd with rfl | rfl
      · refine ⟨fit_str _ ⟨by rw [len_cat, len_cat]; omega, fun c hc => ?_⟩, by simp only [wt]; rw [len_cat, len_cat]; omega⟩
        rw [cps_cat, cps_cat] at hc
        rcases List.mem_append.mp hc with q | q
        · rcases List.mem_append.mp q with q | q
          · exact hx.2 c (mb1 c q)
          · exact cy c q
        · exact hx.2 c (mb2 c q)
      · exact ⟨fit_cat ⟨by omega, fun c hc => hx.2 c (mb3 c hc)⟩ ⟨by omega, fun c hc => hx.2 c (mb4 c hc)⟩, by simp only [wt]; rw [len_cat]; omega⟩
    · refine .inr ⟨decide_eq_false c, ?_⟩
      decreasing_trivial
      refine gd (a := .bool false) rfl ?_
      decreasing_trivial
      refine gd (a := .bool false) rfl ?_
      decreasing_trivial
      exact ⟨⟨fo, by show wt odd ≤ _; omega⟩, done2⟩
  | tuple ds =>
    cases k with
    | zero => exact pl.elim
    | succ j =>
    have few : ds.length ≤ 6 := pl.1
    have el : ∀ d ∈ ds, Pl j d := pl.2
    refine gd (a := .bool false) rfl ?_
    decreasing_trivial
    refine gd (a := .bool true) rfl ?_
    decreasing_trivial
    refine gd (a := .int (ds.length : Nat)) rfl ?_
    decreasing_trivial
    refine gd (a := .int (if (ds.length : Int) > 1 then (ds.length : Int) else 1)) rfl ?_
    decreasing_trivial
    refine pot_at hp2 (by omega) (by split <;> omega) (by split <;> omega) fun at_ p3 a0 a1 hp3 => ?_
    have done3 : Pot (n + 10 * (deep + 1)) p3 := hp3.mono (by omega)
    decreasing_trivial
    cases deep with
    | zero =>
      refine .inr ⟨by decide, ?_⟩
      repeat (first | exact tail_ok rfl few el fodd wodd done3 w0 w1 | decreasing_trivial_pre_omega)
    | succ m =>
      refine .inl ⟨decide_eq_true (by omega), ?_⟩
      decreasing_trivial
      refine gd (ne_empty pl hk) ?_
      decreasing_trivial
      cases em : ds.isEmpty with
      | true =>
        repeat (first | exact tail_ok rfl few el fodd wodd done3 w0 w1 | decreasing_trivial_pre_omega)
      | false =>
        decreasing_trivial
        refine pot_at hp3 (by omega) (by decide) (by decide) fun e p4 e0 e1 hp4 => ?_
        have done4 : Pot (n + 10 * (m + 1 + 1)) p4 := hp4.mono (by omega)
        decreasing_trivial
        by_cases c : 0 < e
        · refine .inl ⟨decide_eq_true c, ?_⟩
          have ne : 1 ≤ ds.length := by
            cases ds with
            | nil => cases em
            | cons => simp
          have at1 : at_ < ds.length := by
            by_cases q : (ds.length : Int) > 1
            · rw [if_pos q] at a1; exact a1
            · rw [if_neg q] at a1; omega
          decreasing_trivial
          obtain ⟨i, rfl⟩ : ∃ i : Nat, at_ = (i : Int) := ⟨at_.toNat, by omega⟩
          have hi : i < ds.length := by omega
          have i1 : (i : Int) + 1 = ((i + 1 : Nat) : Int) := by omega
          refine sl_take ?_
          decreasing_trivial
          refine gd (ix_at ds hi) ?_
          decreasing_trivial
          have em1 : ((m + 1 : Nat) : Int) - 1 = (m : Int) := by omega
          rw [em1]
          refine gd_mono (IH m rfl j _ ds[i] _ (by omega) (el ds[i] (List.getElem_mem hi)) hp4 (by omega)) fun q hq => ?_
          obtain ⟨d1, p5⟩ := q
          have f1 : Fit (j + 2) d1 := hq.1.1
          have w1' : wt d1 ≤ 2 * wt ds[i] + 600 := hq.1.2
          have hp5 : Pot (n + 10 * (m + 1 + 1)) p5 := (show Pot _ p5 from hq.2).mono (by omega)
          clear hq
          have lt1 : (ds.take i).length ≤ ds.length := by rw [List.length_take]; omega
          have lt2 : (ds.drop (i + 1)).length ≤ ds.length := by rw [List.length_drop]; omega
          have wa := wts_at hi
          decreasing_trivial
          refine cat_tup (by show _ + 1 ≤ _; omega) ?_
          decreasing_trivial
          rw [i1]
          refine sl_drop ?_
          refine cat_tup (by rw [List.length_append]; show _ + 1 + _ ≤ _; omega) ?_
          refine ⟨_, rfl, ⟨fit_tup (by rw [List.length_append, List.length_append, List.length_singleton]; omega) fun d hd => ?_, by simp only [wt, wts_append, wts]; omega⟩, hp5⟩
          rcases List.mem_append.mp hd with q | q
          · rcases List.mem_append.mp q with q | q
            · exact fit_le (fit_pl (el d (List.mem_of_mem_take q))) (by omega)
            · rw [List.mem_singleton.mp q]; exact f1
          · exact fit_le (fit_pl (el d (List.mem_of_mem_drop q))) (by omega)
        · refine .inr ⟨decide_eq_false c, ?_⟩
          repeat (first | exact tail_ok rfl few el fodd wodd done4 w0 w1 | decreasing_trivial_pre_omega)
theorem bent_ok : ∀ (deep k n : Nat) (d : PyData) (pd : List PyData), k ≤ 60 → Pl k d → Pot n pd → n + 10 * deep < 900000 →
    Gd (m__law_bent (deep + 1) pd [d, .int (deep : Nat)]) fun q => (Fit (k + 2) q.1 ∧ wt q.1 ≤ 2 * wt d + 600) ∧ Pot (n + 10 * (deep + 1)) q.2
  | 0, k, n, d, pd, hk, pl, h, hn => bent_body _ 0 (fun m e => by cases e) hk pl h hn
  | deep + 1, k, n, d, pd, hk, pl, h, hn => bent_body _ (deep + 1) (fun m e k n d pd hk pl h hn => by
      obtain rfl : deep = m := by omega
      exact bent_ok deep k n d pd hk pl h hn) hk pl h hn
end K07

namespace K07
open PySem PySem.Spec PyProof.Rows L2 Dl
local macro_rules | `(tactic| decreasing_trivial_pre_omega) => `(tactic| (first | with_reducible refine s_seq ?_ | with_reducible refine s_if ?_ | with_reducible refine s_set ?_ | with_reducible refine s_setIx ?_ | with_reducible refine s_ret ?_ | with_reducible refine s_nil ?_ | with_reducible refine s_own ?_ | with_reducible refine s_par ?_ | with_reducible refine t_tst ?_ | with_reducible refine t_and ?_ | with_reducible refine t_or ?_ | with_reducible refine t_not ?_ | with_reducible refine t_yes ?_ | with_reducible refine e_op ?_ | with_reducible refine e_un ?_ | with_reducible refine e_chain ?_ | with_reducible refine e_b ?_ | with_reducible refine e_c ?_ | with_reducible refine e_l ?_ | with_reducible refine e_tup ?_ | with_reducible refine e_call ?_ | with_reducible refine e_and ?_ | with_reducible refine e_or ?_ | with_reducible refine e_not ?_ | with_reducible refine e_if ?_ | with_reducible refine e_sl ?_ | with_reducible refine o_n ?_ | with_reducible refine o_s ?_ | with_reducible refine a_nil ?_ | with_reducible refine a_cons ?_ | with_reducible refine f_lst ?_ | with_reducible refine f_call ?_ | with_reducible refine f_itA ?_ | with_reducible refine f_r1 ?_ | with_reducible refine r_seq ?_ | with_reducible refine n_add ?_ | with_reducible refine n_sub ?_ | with_reducible refine n_gt ?_ | with_reducible refine n_ge ?_ | with_reducible refine n_lt ?_ | with_reducible refine n_le ?_ | with_reducible refine e_var (by with_unfolding_all rfl) ?_ | with_reducible refine e_ixc (by with_unfolding_all rfl) ?_ | with_reducible refine e_callM (by with_unfolding_all rfl) ?_ | with_reducible refine s_frz (by with_unfolding_all rfl) ?_ | with_reducible refine s_app (by with_unfolding_all rfl) ?_ | refine Or.inl ⟨by first | with_reducible rfl | with_reducible exact Bool.not_false, ?_⟩ | refine Or.inr ⟨by first | with_reducible rfl | with_reducible exact Bool.not_true, ?_⟩ | refine Exists.intro _ (Exists.intro _ ⟨rfl, rfl, gd rfl ?_⟩) | refine Exists.intro _ ⟨rfl, ?_⟩))
local macro_rules | `(tactic| decreasing_trivial) => `(tactic| repeat decreasing_trivial_pre_omega)
theorem scals (zs : List Str) : (zs.map PyData.str).all scalD = true := by
  rw [List.all_map]
  exact List.all_eq_true.mpr fun _ _ => rfl
theorem any_str (zs : List Str) (x : Str) : ((zs.map PyData.str).any fun z => PyData.eqv z (.str x)) = decide (x ∈ zs) := by
  induction zs with
  | nil => rfl
  | cons z r ih =>
    rw [List.map_cons, List.any_cons, ih]
    have e : PyData.eqv (.str z) (.str x) = (z == x) := rfl
    rw [e]
    by_cases q : z = x
    · subst q
      simp
    · have q' : (z == x) = false := beq_eq_false_iff_ne.mpr q
      rw [q']
      have e : (x ∈ z :: r) ↔ x ∈ r := by
        rw [List.mem_cons]
        exact ⟨fun o => o.elim (fun e => absurd e.symm q) id, .inr⟩
      rw [Bool.false_or]
      exact decide_eq_decide.mpr e.symm
theorem set_one (zs : List Str) (x : Str) : (zs ++ [x]).map PyData.str = zs.map .str ++ [.str x] := by rw [List.map_append]; rfl
theorem name_at {n : Nat} {pd : List PyData} (h : Pot n pd) (hn : n < 100000) {D : PyData × List PyData → Prop} (k : ∀ (x : Str) (p : List PyData), nameB (.str x) = true → Pot (n + 20) p → D (.str x, p)) : Gd (m__law_name pd []) D :=
  gd_mono (name_ok h hn) fun q hq => by
    obtain ⟨d, p⟩ := q
    obtain ⟨x, e, nx, hp⟩ := hq
    have e' : d = .str x := e
    subst e'
    exact k x p nx hp
theorem in_own {neg : Bool} {i : Nat} {fa : DE} {s : Sl} {zs : List Str} {x : Str} {Q : PyData → Sl → Prop} (hf : fa s = some (.str x, s)) (hc : contents s i = some (zs.map .str)) (k : Q (.bool (if neg then !decide (x ∈ zs) else decide (x ∈ zs))) s) : Ge (dInC neg fa i s) Q := by
  refine ⟨_, s, ?_, k⟩
  unfold dInC
  rw [hf, Option.bind_some, hc, Option.bind_some, if_pos ⟨rfl, scals zs⟩, any_str]
theorem within_len : ∀ (cs zs : List Str), cs.Nodup → (∀ c ∈ cs, c ∈ zs) → cs.length ≤ zs.length
  | [], zs, _, _ => Nat.zero_le _
  | c :: r, zs, nd, h => by
    have m := h c List.mem_cons_self
    obtain ⟨n1, n2⟩ := List.nodup_cons.mp nd
    have a := within_len r (zs.erase c) n2 fun e he => (List.mem_erase_of_ne (fun q : e = c => n1 (by rw [← q]; exact he))).mpr (h e (List.mem_cons_of_mem _ he))
    rw [List.length_erase_of_mem m] at a
    have : 1 ≤ zs.length := List.length_pos_of_mem m
    rw [List.length_cons]
    omega
def others : List Str := ["xa", "xb", "xc", "xd", "xe"]
theorem other_there {zs : List Str} (h : zs.length ≤ 4) : ∃ c, c ∈ others ∧ c ∉ zs := by
  false_or_by_contra
  rename_i no
  have a := within_len others zs (by decide) fun c hc => by
    false_or_by_contra
    rename_i q
    exact no ⟨c, hc, q⟩
  have : others.length = 5 := rfl
  omega
theorem other_name : ∀ c ∈ others, nameB (.str c) = true := by
  have e : others.all (fun c => nameB (.str c)) = true := by decide +kernel
  exact fun c hc => List.all_eq_true.mp e c hc
theorem names_ok {n : Nat} {pd : List PyData} (h : Pot n pd) (hn : n < 50000) : Gd (m__law_names pd []) fun q => ∃ zs : List Str, q.1 = .list (zs.map .str) ∧ zs.length = 4 ∧ (∀ z ∈ zs, nameB (.str z) = true) ∧ Pot (n + 100) q.2 := by
  unfold m__law_names
  refine m_fnM rfl ?_
  unfold b__law_names
  decreasing_trivial
  refine ⟨by decide, by show 1 < 5; decide, ?_⟩
  refine s_seq ?_
  refine s_for (I := fun ds s => ∃ (pd : List PyData) (zs : List Str) (v w : SV), s = [.pot pd, .own (zs.map .str), v, w, .no] ∧ Pot (n + 80 - 20 * ds.length) pd ∧ zs.length + ds.length = 4 ∧ ∀ z ∈ zs, nameB (.str z) = true) ?_ (fun d ds s hI => ?_) (fun s hI => ?_)
  · decreasing_trivial
    refine ⟨by decide, by decide, pd, [], _, _, rfl, ?_, rfl, fun _ hz => by cases hz⟩
    have l : (Dl.rng 0 4).length = 4 := by decide
    rw [l]
    exact h.mono (by omega)
  · obtain ⟨pd, zs, v, w, rfl, hp, l2, nm⟩ := hI
    rw [List.length_cons] at hp l2
    refine ⟨_, rfl, ?_⟩
    decreasing_trivial
    refine name_at hp (by omega) fun x p2 nx hp2 => ?_
    have hp3 : Pot (n + 80 - 20 * ds.length) p2 := hp2.mono (by omega)
    decreasing_trivial
    refine in_own (zs := zs) rfl rfl ?_
    refine ⟨_, rfl, ?_⟩
    have fin : ∀ (y : Str) (s : Sl), nameB (.str y) = true → s = [.pot p2, .own (zs.map .str), .dat d, .dat (.str y), .no] → Gs (sApp 1 (dVar 3) s) (fun s => ∃ (pd : List PyData) (zs : List Str) (v w : SV), s = [.pot pd, .own (zs.map .str), v, w, .no] ∧ Pot (n + 80 - 20 * ds.length) pd ∧ zs.length + ds.length = 4 ∧ ∀ z ∈ zs, nameB (.str z) = true) (fun d s => ∃ pd', potOf s[0]? = some pd' ∧ ∃ zs : List Str, d = .list (zs.map .str) ∧ zs.length = 4 ∧ (∀ z ∈ zs, nameB (.str z) = true) ∧ Pot (n + 100) pd') := by
      intro y s ny hs
      subst hs
      refine s_app (p0 := zs.map .str) rfl ?_
      refine e_var rfl ?_
      refine ⟨zs.map .str, rfl, ?_, p2, zs ++ [y], _, _, (by rw [set_one]; rfl), hp3, ?_, fun z hz => ?_⟩
      · rw [List.length_map]
        exact Nat.lt_of_le_of_lt (show zs.length ≤ 4 by omega) (by decide)
      · rw [List.length_append, List.length_singleton]; omega
      · rcases List.mem_append.mp hz with q | q
        · exact nm z q
        · rw [List.mem_singleton.mp q]; exact ny
    by_cases mem : x ∈ zs
    · refine .inl ⟨by simp [mem], ?_⟩
      decreasing_trivial
      refine f_lc_pure (fun d => match d with | .str z => !decide (z ∈ zs) | _ => false) id ?_
      decreasing_trivial
      refine ⟨by decide, ?_⟩
      decreasing_trivial
      refine .inl ⟨others.map .str, .inr rfl, rfl, by decide, fun d hd => ⟨?_, fun _ => ?_⟩, ?_⟩
      · obtain ⟨z, hz, rfl⟩ := List.mem_map.mp hd
        decreasing_trivial
        refine in_own (zs := zs) rfl rfl ?_
        exact ⟨_, rfl, by simp, rfl⟩
      · obtain ⟨z, hz, rfl⟩ := List.mem_map.mp hd
        decreasing_trivial
        exact ⟨rfl, rfl⟩
      · rw [List.map_id]
        obtain ⟨c, hc, nc⟩ := other_there (zs := zs) (by omega)
        generalize hL : (others.map PyData.str).filter (fun d => match d with | .str z => !decide (z ∈ zs) | _ => false) = L
        have inL : PyData.str c ∈ L := by
          rw [← hL, List.mem_filter]
          exact ⟨List.mem_map.mpr ⟨c, hc, rfl⟩, by simp [nc]⟩
        have allL : ∀ d ∈ L, ∃ y, d = .str y ∧ nameB (.str y) = true := fun d hd => by
          rw [← hL, List.mem_filter] at hd
          obtain ⟨z, hz, rfl⟩ := List.mem_map.mp hd.1
          exact ⟨z, rfl, other_name z hz⟩
        decreasing_trivial
        refine ix_list L (by decide) (by have := List.length_pos_of_mem inL; omega) fun d hd => ?_
        obtain ⟨y, rfl, ny⟩ := allL d hd
        exact fin y _ ny rfl
    · refine .inr ⟨by simp [mem], ?_⟩
      refine s_nil ?_
      exact fin x _ nx rfl
  · obtain ⟨pd, zs, v, w, rfl, hp, l2, nm⟩ := hI
    rw [List.length_nil] at hp l2
    refine s_seq ?_
    refine s_frz rfl ?_
    decreasing_trivial
    exact ⟨by omega, nm, hp.mono (by omega)⟩
end K07

namespace K07
open PySem PySem.Spec PyProof.Rows L2 Dl
local macro_rules | `(tactic| decreasing_trivial_pre_omega) => `(tactic| (first | with_reducible refine s_seq ?_ | with_reducible refine s_if ?_ | with_reducible refine s_set ?_ | with_reducible refine s_setIx ?_ | with_reducible refine s_ret ?_ | with_reducible refine s_nil ?_ | with_reducible refine s_own ?_ | with_reducible refine s_par ?_ | with_reducible refine t_tst ?_ | with_reducible refine t_and ?_ | with_reducible refine t_or ?_ | with_reducible refine t_not ?_ | with_reducible refine t_yes ?_ | with_reducible refine e_op ?_ | with_reducible refine e_un ?_ | with_reducible refine e_chain ?_ | with_reducible refine e_b ?_ | with_reducible refine e_c ?_ | with_reducible refine e_l ?_ | with_reducible refine e_tup ?_ | with_reducible refine e_call ?_ | with_reducible refine e_and ?_ | with_reducible refine e_or ?_ | with_reducible refine e_not ?_ | with_reducible refine e_if ?_ | with_reducible refine e_sl ?_ | with_reducible refine o_n ?_ | with_reducible refine o_s ?_ | with_reducible refine a_nil ?_ | with_reducible refine a_cons ?_ | with_reducible refine f_lst ?_ | with_reducible refine f_call ?_ | with_reducible refine f_itA ?_ | with_reducible refine f_r1 ?_ | with_reducible refine r_seq ?_ | with_reducible refine n_add ?_ | with_reducible refine n_sub ?_ | with_reducible refine n_gt ?_ | with_reducible refine n_ge ?_ | with_reducible refine n_lt ?_ | with_reducible refine n_le ?_ | with_reducible refine e_var (by with_unfolding_all rfl) ?_ | with_reducible refine e_ixc (by with_unfolding_all rfl) ?_ | with_reducible refine e_callM (by with_unfolding_all rfl) ?_ | with_reducible refine s_frz (by with_unfolding_all rfl) ?_ | with_reducible refine s_app (by with_unfolding_all rfl) ?_ | with_reducible refine few_and (by first | decide | (simp only [List.length_cons, List.length_nil, Nat.reduceAdd, Nat.reduceLeDiff])) ?_ | refine Or.inl ⟨by first | with_reducible rfl | with_reducible exact Bool.not_false, ?_⟩ | refine Or.inr ⟨by first | with_reducible rfl | with_reducible exact Bool.not_true, ?_⟩ | refine Exists.intro _ (Exists.intro _ ⟨rfl, rfl, gd rfl ?_⟩) | refine Exists.intro _ ⟨rfl, ?_⟩))
local macro_rules | `(tactic| decreasing_trivial) => `(tactic| repeat decreasing_trivial_pre_omega)
theorem pl_up : ∀ {k : Nat} {d : PyData}, Pl k d → Pl (k + 1) d
  | k, .int i, h => pl_int _ (by cases k <;> exact h)
  | k, .str x, h => pl_str _ (by cases k <;> exact h)
  | 0, .tuple ds, h => h.elim
  | k + 1, .tuple ds, h => ⟨h.1, fun d hd => pl_up (h.2 d hd)⟩
  | 0, .none, h => h.elim
  | 0, .bool _, h => h.elim
  | 0, .list _, h => h.elim
  | 0, .dict _, h => h.elim
  | k + 1, .none, h => h.elim
  | k + 1, .bool _, h => h.elim
  | k + 1, .list _, h => h.elim
  | k + 1, .dict _, h => h.elim
theorem pl_le {j k : Nat} {d : PyData} (h : Pl j d) (l : j ≤ k) : Pl k d := by
  induction l with
  | refl => exact h
  | step _ ih => exact pl_up ih
/-- a condition of u pieces, at most so deep, as it may stand within a round or not -/
structure Cn (deep : Nat) (w : Bool) (u : Nat) (d : PyData) : Prop where
  num : ∀ r, deep ≤ r → cnt r w d = u
  pl : Pl (2 * deep) d
  wt_ : wt d ≤ 400 * (deep * u)
  one : 1 ≤ u
theorem Cn.mono {j k : Nat} {w : Bool} {u : Nat} {d : PyData} (c : Cn j w u d) (h : j ≤ k) : Cn k w u d :=
  ⟨fun r hr => c.num r (by omega), pl_le c.pl (by omega), Nat.le_trans c.wt_ (Nat.mul_le_mul_left _ (Nat.mul_le_mul_right _ h)), c.one⟩
theorem wt_name {x : Str} (h : nameB (.str x) = true) : wt (.str x) ≤ 82 := by
  have := (nameB_parts h).2.1
  simp only [wt]
  omega
theorem cn_piece {w : Bool} {a b c : PyData} (ha : isOf pieces4 a = true) (hp : pieceB a b c = true) (pa : Pl 0 a) (pb : Pl 0 b) (pc : Pl 0 c) (wa : wt a ≤ 82) (wb : wt b ≤ 82) (wc : wt c ≤ 202) : Cn 1 w 1 (.tuple [a, b, c]) := by
  refine ⟨fun r hr => ?_, ⟨by show 3 ≤ 6; decide, fun d hd => ?_⟩, ?_, by decide⟩
  · obtain ⟨r', rfl⟩ : ∃ r', r = r' + 1 := ⟨r - 1, by omega⟩
    rw [cnt3, if_pos ha, if_pos hp]
    rfl
  · simp only [List.mem_cons, List.not_mem_nil, or_false] at hd
    rcases hd with rfl | rfl | rfl
    · exact pl_le pa (by decide)
    · exact pl_le pb (by decide)
    · exact pl_le pc (by decide)
  · simp only [wt, wts]
    omega
theorem piece_drawn {n : Nat} {pd : List PyData} {zs : List Str} {w : Bool} (h : Pot n pd) (hn : n < 900000) (l4 : zs.length = 4) (nm : ∀ z ∈ zs, nameB (.str z) = true) :
    Gd (m__law_piece pd [.list (zs.map .str)]) fun q => Cn 1 w 1 q.1 ∧ Pot (n + 5) q.2 := by
  unfold m__law_piece
  refine m_fnM rfl ?_
  unfold b__law_piece
  have len : gLen [.list (zs.map .str)] = some (.int 4) := by
    show some (PyData.int ((zs.map PyData.str).length : Nat)) = _
    rw [List.length_map, l4]
    rfl
  have lm : (((zs.map PyData.str).length : Nat) : Int) = 4 := by rw [List.length_map, l4]; rfl
  decreasing_trivial
  refine gd len ?_
  decreasing_trivial
  refine pot_at h (by omega) (by decide) (by decide) fun r1 p1 a1 b1 hp1 => ?_
  decreasing_trivial
  refine ix_list (zs.map .str) a1 (by rw [lm]; exact b1) fun d hd => ?_
  obtain ⟨x, hx, rfl⟩ := List.mem_map.mp hd
  have nx := nm x hx
  decreasing_trivial
  refine gd len ?_
  decreasing_trivial
  refine pot_at hp1 (by omega) (by decide) (by decide) fun r2 p2 a2 b2 hp2 => ?_
  decreasing_trivial
  refine ix_list (zs.map .str) a2 (by rw [lm]; exact b2) fun d hd => ?_
  obtain ⟨y, hy, rfl⟩ := List.mem_map.mp hd
  have ny := nm y hy
  decreasing_trivial
  refine pot_at hp2 (by omega) (by decide) (by decide) fun v p3 a3 b3 hp3 => ?_
  decreasing_trivial
  by_cases c : v < 2
  · refine .inl ⟨decide_eq_true c, ?_⟩
    decreasing_trivial
    refine ix_list _ a3 (by exact c) fun g hg => ?_
    decreasing_trivial
    have ok : isOf pieces4 g = true ∧ isOf isHas g = true ∧ Pl 0 g ∧ wt g ≤ 82 := by
      simp only [List.mem_cons, List.not_mem_nil, or_false] at hg
      rcases hg with rfl | rfl <;> exact ⟨by decide, by decide, pl_str 0 ⟨by decide, by decide⟩, by simp only [wt]; decide⟩
    obtain ⟨o1, o2, o3, o4⟩ := ok
    refine ⟨cn_piece o1 ?_ o3 (pl_name 0 nx) (pl_name 0 ny) o4 (wt_name nx) (Nat.le_trans (wt_name ny) (by decide)), hp3.mono (by omega)⟩
    have e : pieceB g (.str x) (.str y) = (nameB (.str x) && nameB (.str y)) := if_pos o2
    rw [e, nx, ny]
    rfl
  · refine .inr ⟨decide_eq_false c, ?_⟩
    decreasing_trivial
    refine ix_list _ (by omega) (by show v - 2 < 2; omega) fun g hg => ?_
    decreasing_trivial
    refine million ?_
    decreasing_trivial
    refine million ?_
    decreasing_trivial
    refine pot_at hp3 (by omega) (by decide) (by decide) fun u p4 a4 b4 hp4 => ?_
    decreasing_trivial
    refine pot_at hp4 (by omega) (by decide) (by decide) fun r5 p5 a5 b5 hp5 => ?_
    decreasing_trivial
    refine ix_list _ a5 (by exact b5) fun i hi => ?_
    have bi : ∃ j : Int, i = .int j ∧ 0 ≤ j ∧ j ≤ 1000000 := by
      have few : (1000000 : Int) + 1 = 1000001 := by decide
      rw [few] at b4
      simp only [List.mem_cons, List.not_mem_nil, or_false] at hi
      rcases hi with rfl | rfl | rfl | rfl | rfl | rfl
      all_goals first
        | exact ⟨_, rfl, by decide, by decide⟩
        | exact ⟨_, rfl, a4, by omega⟩
    obtain ⟨j, rfl, j0, j1⟩ := bi
    decreasing_trivial
    have ok : isOf pieces4 g = true ∧ isOf isHas g = false ∧ Pl 0 g ∧ wt g ≤ 82 := by
      simp only [List.mem_cons, List.not_mem_nil, or_false] at hg
      rcases hg with rfl | rfl <;> exact ⟨by decide, by decide, pl_str 0 ⟨by decide, by decide⟩, by simp only [wt]; decide⟩
    obtain ⟨o1, o2, o3, o4⟩ := ok
    refine ⟨cn_piece o1 ?_ o3 (pl_name 0 nx) (pl_int 0 ⟨j0, j1⟩) o4 (wt_name nx) (by simp only [wt]; decide), hp5.mono (by omega)⟩
    have e : pieceB g (.str x) (.int j) = (nameB (.str x) && wholeB 0 1000000 (.int j)) := if_neg (nf o2)
    rw [e, nx]
    unfold wholeB
    simp [j0, j1]
end K07

namespace K07
open PySem PySem.Spec PyProof.Rows L2 Dl
theorem step_mul (deep u : Nat) : (deep + 1) * u = deep * u + u := Nat.succ_mul deep u
theorem cn_not {deep u : Nat} {w : Bool} {d : PyData} (c : Cn deep w u d) : Cn (deep + 1) w u (.tuple [.str "not", d]) := by
  have o := c.one
  have wd := c.wt_
  refine ⟨fun r hr => ?_, ⟨by show 2 ≤ 6; decide, fun e he => ?_⟩, ?_, o⟩
  · obtain ⟨r', rfl⟩ : ∃ r', r = r' + 1 := ⟨r - 1, by omega⟩
    rw [cnt2, if_pos (by decide)]
    exact c.num r' (by omega)
  · simp only [List.mem_cons, List.not_mem_nil, or_false] at he
    rcases he with rfl | rfl
    · exact pl_str _ ⟨by decide, by decide⟩
    · exact pl_le c.pl (by show 2 * deep ≤ 2 * deep + 1; omega)
  · have sm := step_mul deep u
    have l : wt (.str "not") = 32 := by simp only [wt]; rfl
    have e : wt (.tuple [.str "not", d]) = wt (.str "not") + 2 + (wt d + 2 + 0) + 4 := by simp only [wt, wts]
    rw [e, l]
    omega
theorem cn_round {deep u : Nat} {g d : PyData} {x : Str} (c : Cn deep true u d) (g1 : isOf pieces4 g = false) (g2 : isOf rounds2 g = true) (pg : Pl 0 g) (wg : wt g ≤ 82) (nx : nameB (.str x) = true) : Cn (deep + 1) false u (.tuple [g, .str x, d]) := by
  have o := c.one
  have wd := c.wt_
  have wx := wt_name nx
  refine ⟨fun r hr => ?_, ⟨by show 3 ≤ 6; decide, fun e he => ?_⟩, ?_, o⟩
  · obtain ⟨r', rfl⟩ : ∃ r', r = r' + 1 := ⟨r - 1, by omega⟩
    rw [cnt3, if_neg (nf g1), if_pos (by rw [g2, nx]; rfl)]
    exact c.num r' (by omega)
  · simp only [List.mem_cons, List.not_mem_nil, or_false] at he
    rcases he with rfl | rfl | rfl
    · exact pl_le pg (by omega)
    · exact pl_name _ nx
    · exact pl_le c.pl (by show 2 * deep ≤ 2 * deep + 1; omega)
  · have sm := step_mul deep u
    have e : wt (.tuple [g, .str x, d]) = wt g + 2 + (wt (.str x) + 2 + (wt d + 2 + 0)) + 4 := by simp only [wt, wts]
    rw [e]
    omega
inductive Parts (deep : Nat) (w : Bool) : List PyData → Nat → Prop
  | nil : Parts deep w [] 0
  | snoc {ds : List PyData} {t u : Nat} {d : PyData} : Parts deep w ds t → Cn deep w u d → Parts deep w (ds ++ [d]) (t + u)
theorem Parts.all {deep : Nat} {w : Bool} {ds : List PyData} {t : Nat} (p : Parts deep w ds t) : (∀ r, deep ≤ r → (ds.map (cnt r w)).sum = t ∧ (ds.map (cnt r w)).all (fun c => decide (0 < c)) = true) ∧ (∀ d ∈ ds, Pl (2 * deep) d) ∧ wts ds ≤ 400 * (deep * t) + 2 * ds.length ∧ ds.length ≤ t := by
  induction p with
  | nil => exact ⟨fun _ _ => ⟨rfl, rfl⟩, fun _ h => (by cases h), by simp [wts], Nat.le_refl _⟩
  | @snoc ds t u d p c ih =>
    obtain ⟨h1, h2, h3, h4⟩ := ih
    have o := c.one
    have wd := c.wt_
    refine ⟨fun r hr => ?_, fun e he => ?_, ?_, ?_⟩
    · obtain ⟨a, b⟩ := h1 r hr
      have n := c.num r hr
      rw [List.map_append, List.sum_append, List.all_append, a, b]
      simp only [List.map_cons, List.map_nil, List.sum_cons, List.sum_nil, List.all_cons, List.all_nil, n]
      refine ⟨by omega, ?_⟩
      have q : decide (0 < (u : Int)) = true := decide_eq_true (by omega)
      rw [q]
      rfl
    · rcases List.mem_append.mp he with q | q
      · exact h2 e q
      · rw [List.mem_singleton.mp q]; exact c.pl
    · rw [wts_append, Nat.mul_add, List.length_append, List.length_singleton]
      simp only [wts]
      omega
    · rw [List.length_append, List.length_singleton]; omega
theorem cn_group {deep t : Nat} {w : Bool} {g : PyData} {ds : List PyData} (p : Parts deep w ds t) (l1 : 2 ≤ ds.length) (l2 : ds.length ≤ 6) (g1 : isNot g = false) (g2 : isOf groups2 g = true) (pg : Pl 0 g) (wg : wt g ≤ 82) : Cn (deep + 1) w t (.tuple [g, .tuple ds]) := by
  obtain ⟨h1, h2, h3, h4⟩ := p.all
  refine ⟨fun r hr => ?_, ⟨by show 2 ≤ 6; decide, fun e he => ?_⟩, ?_, by omega⟩
  · obtain ⟨r', rfl⟩ : ∃ r', r = r' + 1 := ⟨r - 1, by omega⟩
    obtain ⟨a, b⟩ := h1 r' (by omega)
    rw [cnt2, if_neg (nf g1), if_pos g2, groupOf_tup, if_pos ⟨l1, l2⟩]
    unfold grp
    rw [if_pos b, a]
  · simp only [List.mem_cons, List.not_mem_nil, or_false] at he
    rcases he with rfl | rfl
    · exact pl_le pg (by omega)
    · exact ⟨l2, h2⟩
  · have sm := step_mul deep t
    have e : wt (.tuple [g, .tuple ds]) = wt g + 2 + (wts ds + 4 + 2 + 0) + 4 := by simp only [wt, wts]
    rw [e]
    omega
end K07

namespace K07
open PySem PySem.Spec PyProof.Rows L2 Dl
local macro_rules | `(tactic| decreasing_trivial_pre_omega) => `(tactic| (first | with_reducible refine s_seq ?_ | with_reducible refine s_if ?_ | with_reducible refine s_set ?_ | with_reducible refine s_setIx ?_ | with_reducible refine s_ret ?_ | with_reducible refine s_nil ?_ | with_reducible refine s_own ?_ | with_reducible refine s_par ?_ | with_reducible refine t_tst ?_ | with_reducible refine t_and ?_ | with_reducible refine t_or ?_ | with_reducible refine t_not ?_ | with_reducible refine t_yes ?_ | with_reducible refine e_op ?_ | with_reducible refine e_un ?_ | with_reducible refine e_chain ?_ | with_reducible refine e_b ?_ | with_reducible refine e_c ?_ | with_reducible refine e_l ?_ | with_reducible refine e_tup ?_ | with_reducible refine e_call ?_ | with_reducible refine e_and ?_ | with_reducible refine e_or ?_ | with_reducible refine e_not ?_ | with_reducible refine e_if ?_ | with_reducible refine e_sl ?_ | with_reducible refine o_n ?_ | with_reducible refine o_s ?_ | with_reducible refine a_nil ?_ | with_reducible refine a_cons ?_ | with_reducible refine f_lst ?_ | with_reducible refine f_call ?_ | with_reducible refine f_itA ?_ | with_reducible refine f_r1 ?_ | with_reducible refine r_seq ?_ | with_reducible refine n_add ?_ | with_reducible refine n_sub ?_ | with_reducible refine n_gt ?_ | with_reducible refine n_ge ?_ | with_reducible refine n_lt ?_ | with_reducible refine n_le ?_ | with_reducible refine e_var (by with_unfolding_all rfl) ?_ | with_reducible refine e_ixc (by with_unfolding_all rfl) ?_ | with_reducible refine e_callM (by with_unfolding_all rfl) ?_ | with_reducible refine s_frz (by with_unfolding_all rfl) ?_ | with_reducible refine s_app (by with_unfolding_all rfl) ?_ | with_reducible refine few_and (by first | decide | (simp only [List.length_cons, List.length_nil, Nat.reduceAdd, Nat.reduceLeDiff])) ?_ | refine Or.inl ⟨by first | with_reducible rfl | with_reducible exact Bool.not_false, ?_⟩ | refine Or.inr ⟨by first | with_reducible rfl | with_reducible exact Bool.not_true, ?_⟩ | refine Exists.intro _ (Exists.intro _ ⟨rfl, rfl, gd rfl ?_⟩) | refine Exists.intro _ ⟨rfl, ?_⟩))
local macro_rules | `(tactic| decreasing_trivial) => `(tactic| repeat decreasing_trivial_pre_omega)
def takes : Nat → Nat
  | 0 => 0
  | k + 1 => 6 * takes k + 20
theorem takes_up (k : Nat) : takes (k + 1) = 6 * takes k + 20 := rfl
def restG (self : List PyData → List PyData → Option (PyData × List PyData)) : DS := (sSeq (sIf (dTst (dOp gLt (dVar 3) (dC (.int 2))))
  (sRet (dTup (aCons (dCallM m__law_piece 0 (aCons (dVar 1) aNil)) (aCons (dC (.int 1)) aNil))))
  sNil)
  (sSeq (sOwn 8 (fLst aNil))
  (sSeq (sSet 9 (dC (.int 0)))
  (sSeq (sSet 10 (dB gMin (aCons (dVar 3) (aCons (dOp gAdd (dC (.int 2)) (dCallM m__law_take 0 (aCons (dC (.int 5)) aNil))) aNil))))
  (sSeq (sFor (itR1 (dVar 10)) (tgN 11)
  (sSeq (sAsg (dCallM self 0 (aCons (dVar 1) (aCons (dOp gSub (dVar 2) (dC (.int 1))) (aCons (dOp gSub (dOp gSub (dVar 3) (dVar 9)) (dOp gSub (dOp gSub (dVar 10) (dC (.int 1))) (dVar 11))) (aCons (dVar 4) aNil))))) (tgT [(tgN 6), (tgN 7)]))
  (sSeq (sApp 8 (dVar 6))
  (sSet 9 (dOp gAdd (dVar 9) (dVar 7))))))
  (sSeq (sFrz 8) (sRet (dTup (aCons (dTup (aCons (dOp gIx (dL (fLst (aCons (dC (.str "and")) (aCons (dC (.str "or")) aNil)))) (dOp gMod (dVar 5) (dC (.int 2)))) (aCons (dB gTuple (aCons (dVar 8) aNil)) aNil))) (aCons (dVar 9) aNil))))))))))
theorem group_drawn {zs : List Str} (l4 : zs.length = 4) (nm : ∀ z ∈ zs, nameB (.str z) = true) {self : List PyData → List PyData → Option (PyData × List PyData)} {deep : Nat} (d1 : 1 ≤ deep) (ih : ∀ (m : Nat) (w : Bool) (pd : List PyData) (n : Nat), 1 ≤ m → m ≤ 30 → Pot n pd → n + takes deep ≤ 800000 → Gd (self pd [.list (zs.map .str), .int (deep : Nat), .int (m : Nat), .bool w]) fun q => ∃ (d : PyData) (u : Nat), q.1 = .tuple [d, .int (u : Nat)] ∧ u ≤ m ∧ Cn deep w u d ∧ Pot (n + takes deep) q.2)
    {m n : Nat} {w : Bool} {p1 : List PyData} {way : Int} (m1 : 1 ≤ m) (m30 : m ≤ 30) (hp1 : Pot n p1) (hn : n + 6 * takes deep + 15 ≤ 800000) {s : Sl} (hs : s = [.pot p1, .dat (.list (zs.map .str)), .dat (.int ((deep + 1 : Nat) : Int)), .dat (.int (m : Nat)), .dat (.bool w), .dat (.int way), .no, .no, .no, .no, .no, .no]) :
    Gs (restG self s) (fun s => ∃ pd', potOf s[0]? = some pd' ∧ ∃ (d : PyData) (u : Nat), PyData.none = .tuple [d, .int (u : Nat)] ∧ u ≤ m ∧ Cn (deep + 1) w u d ∧ Pot (n + 6 * takes deep + 15) pd') fun q s => ∃ pd', potOf s[0]? = some pd' ∧ ∃ (d : PyData) (u : Nat), q = .tuple [d, .int (u : Nat)] ∧ u ≤ m ∧ Cn (deep + 1) w u d ∧ Pot (n + 6 * takes deep + 15) pd' := by
  subst hs
  unfold restG
  have dec : ((deep + 1 : Nat) : Int) - 1 = (deep : Int) := by omega
  decreasing_trivial
  by_cases c1 : (m : Int) < 2
  · refine .inl ⟨decide_eq_true c1, ?_⟩
    decreasing_trivial
    refine gd_mono (piece_drawn (w := w) hp1 (by omega) l4 nm) fun q hq => ?_
    obtain ⟨d, p2⟩ := q
    decreasing_trivial
    exact ⟨d, 1, rfl, by omega, (show Cn 1 w 1 d from hq.1).mono (by omega), (show Pot _ p2 from hq.2).mono (by omega)⟩
  · refine .inr ⟨decide_eq_false c1, ?_⟩
    decreasing_trivial
    refine ⟨by show 8 < 12; decide, ?_⟩
    decreasing_trivial
    refine pot_at hp1 (by omega) (by decide) (by decide) fun v p2 v0 v1 hp2 => ?_
    decreasing_trivial
    refine gd (a := .int (if 2 + v < (m : Int) then 2 + v else (m : Int))) rfl ?_
    generalize hk : (if 2 + v < (m : Int) then 2 + v else (m : Int)) = many
    have k2 : 2 ≤ many ∧ many ≤ 6 ∧ many ≤ m := by
      rw [← hk]
      split <;> omega
    clear hk
    obtain ⟨mn, rfl⟩ : ∃ mn : Nat, many = (mn : Int) := ⟨many.toNat, by omega⟩
    have k3 : 2 ≤ mn ∧ mn ≤ 6 ∧ mn ≤ m := by omega
    refine s_seq ?_
    refine s_for (I := fun ds s => ∃ (p : List PyData) (parts : List PyData) (t : Nat) (v6 v7 v11 : SV), s = [.pot p, .dat (.list (zs.map .str)), .dat (.int ((deep + 1 : Nat) : Int)), .dat (.int (m : Nat)), .dat (.bool w), .dat (.int way), v6, v7, .own parts, .dat (.int (t : Nat)), .dat (.int (mn : Nat)), v11] ∧
        Parts deep w parts t ∧ parts.length + ds.length = mn ∧ t + ds.length ≤ m ∧ Pot (n + 6 * takes deep + 2 - takes deep * ds.length) p ∧ ds = (List.range' parts.length ds.length).map fun (i : Nat) => PyData.int (i : Int)) ?_ (fun d ds s hI => ?_) (fun s hI => ?_)
    · decreasing_trivial
      refine ⟨by omega, by omega, p2, [], 0, _, _, _, rfl, .nil, ?_, ?_, ?_, ?_⟩
      · unfold Dl.rng
        rw [List.length_map, List.length_range]
        show 0 + _ = mn
        omega
      · unfold Dl.rng
        rw [List.length_map, List.length_range]
        omega
      · unfold Dl.rng
        rw [List.length_map, List.length_range]
        refine hp2.mono ?_
        have e1 : ((mn : Int) - 0).toNat = mn := by omega
        rw [e1]
        have e2 : takes deep * mn ≤ takes deep * 6 := Nat.mul_le_mul_left _ k3.2.1
        omega
      · unfold Dl.rng
        rw [List.length_map, List.length_range]
        have e1 : ((mn : Int) - 0).toNat = mn := by omega
        rw [e1, List.length_nil, ← List.range_eq_range']
        refine List.map_congr_left fun i _ => ?_
        rw [Int.zero_add]
    · obtain ⟨p, ps, t, v6, v7, v11, rfl, pt, lp, lt, hp, er⟩ := hI
      rw [List.length_cons] at lp lt hp er
      rw [List.range'_succ, List.map_cons] at er
      obtain ⟨rfl, er'⟩ := List.cons.inj er
      have q1 : takes deep * (ds.length + 1) = takes deep * ds.length + takes deep := Nat.mul_succ _ _
      have q2 : takes deep * (ds.length + 1) ≤ takes deep * 6 := Nat.mul_le_mul_left _ (by omega)
      refine ⟨_, rfl, ?_⟩
      refine s_seq ?_
      refine s_asg ?_
      decreasing_trivial
      obtain ⟨m', hm'⟩ : ∃ m' : Nat, ((m : Nat) : Int) - (t : Int) - ((mn : Int) - 1 - ((ps.length : Nat) : Int)) = (m' : Int) := ⟨(((m : Nat) : Int) - (t : Int) - ((mn : Int) - 1 - ((ps.length : Nat) : Int))).toNat, by omega⟩
      rw [dec, hm']
      refine gd_mono (ih m' w p _ (by omega) (by omega) hp (by omega)) fun q hq => ?_
      obtain ⟨q1', p3⟩ := q
      obtain ⟨d, u, e, hu, cn, hp3⟩ := hq
      have e' : q1' = .tuple [d, .int (u : Nat)] := e
      subst e'
      refine gd rfl ?_
      decreasing_trivial
      refine ⟨Nat.lt_of_le_of_lt (show ps.length ≤ 6 by omega) (by decide), ?_⟩
      decreasing_trivial
      refine ⟨p3, ps ++ [d], t + u, _, _, _, (by rw [Int.natCast_add]; rfl), .snoc pt cn, ?_, ?_, (show Pot _ p3 from hp3).mono (by omega), ?_⟩
      · rw [List.length_append, List.length_singleton]; omega
      · omega
      · rw [List.length_append, List.length_singleton]
        exact er'
    · obtain ⟨p, ps, t, v6, v7, v11, rfl, pt, lp, lt, hp, er⟩ := hI
      rw [List.length_nil] at lp lt hp
      refine s_seq ?_
      refine s_frz rfl ?_
      decreasing_trivial
      refine n_mod (by decide) fun l1 l2 => ?_
      decreasing_trivial
      refine ix_list _ l1 (by exact l2) fun g hg => ?_
      decreasing_trivial
      refine gd (a := .tuple ps) rfl ?_
      decreasing_trivial
      have ok : isNot g = false ∧ isOf groups2 g = true ∧ Pl 0 g ∧ wt g ≤ 82 := by
        simp only [List.mem_cons, List.not_mem_nil, or_false] at hg
        rcases hg with rfl | rfl <;> exact ⟨by decide, by decide, pl_str 0 ⟨by decide, by decide⟩, by simp only [wt]; decide⟩
      exact ⟨_, t, rfl, by omega, cn_group pt (by omega) (by omega) ok.1 ok.2.1 ok.2.2.1 ok.2.2.2, hp.mono (by omega)⟩
theorem drawn_ok {zs : List Str} (l4 : zs.length = 4) (nm : ∀ z ∈ zs, nameB (.str z) = true) : ∀ (deep fuel : Nat), 1 ≤ deep → deep ≤ fuel → ∀ (m : Nat) (w : Bool) (pd : List PyData) (n : Nat), 1 ≤ m → m ≤ 30 → Pot n pd → n + takes deep ≤ 800000 →
    Gd (m__law_drawn fuel pd [.list (zs.map .str), .int (deep : Nat), .int (m : Nat), .bool w]) fun q => ∃ (d : PyData) (u : Nat), q.1 = .tuple [d, .int (u : Nat)] ∧ u ≤ m ∧ Cn deep w u d ∧ Pot (n + takes deep) q.2 := by
  intro deep
  induction deep with
  | zero => intro fuel h; omega
  | succ deep ih =>
    intro fuel hd hf m w pd n m1 m30 h hn
    obtain ⟨f, rfl⟩ : ∃ f, fuel = f + 1 := ⟨fuel - 1, by omega⟩
    have tk := takes_up deep
    have dec : ((deep + 1 : Nat) : Int) - 1 = (deep : Int) := by omega
    show Gd (fnM _ _ (b__law_drawn (m__law_drawn f)) pd _) _
    refine m_fnM rfl ?_
    unfold b__law_drawn
    have len : gLen [.list (zs.map .str)] = some (.int 4) := by
      show some (PyData.int ((zs.map PyData.str).length : Nat)) = _
      rw [List.length_map, l4]
      rfl
    have lm : (((zs.map PyData.str).length : Nat) : Int) = 4 := by rw [List.length_map, l4]; rfl
    decreasing_trivial
    refine pot_at h (by omega) (by decide) (by decide) fun way p1 y0 y1 hp1 => ?_
    decreasing_trivial
    by_cases c1 : ((deep + 1 : Nat) : Int) < 2
    · refine .inl ⟨decide_eq_true c1, ?_⟩
      decreasing_trivial
      refine gd_mono (piece_drawn (w := w) hp1 (by omega) l4 nm) fun q hq => ?_
      obtain ⟨d, p2⟩ := q
      decreasing_trivial
      exact ⟨d, 1, rfl, by omega, (show Cn 1 w 1 d from hq.1).mono (by omega), (show Pot _ p2 from hq.2).mono (by omega)⟩
    · refine .inr ⟨decide_eq_false c1, ?_⟩
      have d1 : 1 ≤ deep := by omega
      decreasing_trivial
      by_cases c2 : way < 2
      · refine .inl ⟨decide_eq_true c2, ?_⟩
        decreasing_trivial
        refine gd_mono (piece_drawn (w := w) hp1 (by omega) l4 nm) fun q hq => ?_
        obtain ⟨d, p2⟩ := q
        decreasing_trivial
        exact ⟨d, 1, rfl, by omega, (show Cn 1 w 1 d from hq.1).mono (by omega), (show Pot _ p2 from hq.2).mono (by omega)⟩
      · refine .inr ⟨decide_eq_false c2, ?_⟩
        decreasing_trivial
        refine gd (eq_int _ _) ?_
        decreasing_trivial
        cases c3 : (way == 2) with
        | true =>
          decreasing_trivial
          refine s_asg ?_
          decreasing_trivial
          rw [dec]
          refine gd_mono (ih f d1 (by omega) m w p1 _ m1 m30 hp1 (by omega)) fun q hq => ?_
          obtain ⟨q1, p2⟩ := q
          obtain ⟨d, u, e, hu, cn, hp2⟩ := hq
          have e' : q1 = .tuple [d, .int (u : Nat)] := e
          subst e'
          refine gd rfl ?_
          decreasing_trivial
          exact ⟨_, u, rfl, hu, cn_not cn, (show Pot _ p2 from hp2).mono (by omega)⟩
        | false =>
          decreasing_trivial
          have ih' := ih f d1 (by omega)
          by_cases c4 : 6 < way
          · refine .inl ⟨decide_eq_true c4, ?_⟩
            decreasing_trivial
            cases w with
            | true =>
              have fin := group_drawn (way := way) (w := true) l4 nm d1 ih' m1 m30 hp1 (by omega) rfl
              have e15 : n + 1 + 6 * takes deep + 15 ≤ n + takes (deep + 1) := by omega
              have fin' := gs_mono (N' := fun s => ∃ pd', potOf s[0]? = some pd' ∧ ∃ (d : PyData) (u : Nat), PyData.none = .tuple [d, .int (u : Nat)] ∧ u ≤ m ∧ Cn (deep + 1) true u d ∧ Pot (n + takes (deep + 1)) pd') (R' := fun q s => ∃ pd', potOf s[0]? = some pd' ∧ ∃ (d : PyData) (u : Nat), q = .tuple [d, .int (u : Nat)] ∧ u ≤ m ∧ Cn (deep + 1) true u d ∧ Pot (n + takes (deep + 1)) pd') fin
                (fun s h => by obtain ⟨pd', e, d, u, a, b, c, g⟩ := h; exact ⟨pd', e, d, u, a, b, c, g.mono e15⟩) (fun q s h => by obtain ⟨pd', e, d, u, a, b, c, g⟩ := h; exact ⟨pd', e, d, u, a, b, c, g.mono e15⟩)
              repeat (first | exact fin' | decreasing_trivial_pre_omega)
            | false =>
              decreasing_trivial
              refine s_asg ?_
              decreasing_trivial
              rw [dec]
              refine gd_mono (ih' m true p1 _ m1 m30 hp1 (by omega)) fun q hq => ?_
              obtain ⟨q1, p2⟩ := q
              obtain ⟨d, u, e, hu, cn, hp2⟩ := hq
              have e' : q1 = .tuple [d, .int (u : Nat)] := e
              subst e'
              have hp2' : Pot (n + 1 + takes deep) p2 := hp2
              refine gd rfl ?_
              decreasing_trivial
              refine ix_list _ (by omega) (by show way - 7 < 2; omega) fun g hg => ?_
              decreasing_trivial
              refine gd len ?_
              decreasing_trivial
              refine pot_at hp2' (by omega) (by decide) (by decide) fun r3 p3 a3 b3 hp3 => ?_
              decreasing_trivial
              refine ix_list (zs.map .str) a3 (by rw [lm]; exact b3) fun x hx => ?_
              obtain ⟨z, hz, rfl⟩ := List.mem_map.mp hx
              decreasing_trivial
              have ok : isOf pieces4 g = false ∧ isOf rounds2 g = true ∧ Pl 0 g ∧ wt g ≤ 82 := by
                simp only [List.mem_cons, List.not_mem_nil, or_false] at hg
                rcases hg with rfl | rfl <;> exact ⟨by decide, by decide, pl_str 0 ⟨by decide, by decide⟩, by simp only [wt]; decide⟩
              exact ⟨_, u, rfl, hu, cn_round cn ok.1 ok.2.1 ok.2.2.1 ok.2.2.2 (nm z hz), hp3.mono (by omega)⟩
          · refine .inr ⟨decide_eq_false c4, ?_⟩
            have fin := group_drawn (way := way) (w := w) l4 nm d1 ih' m1 m30 hp1 (by omega) rfl
            have e15 : n + 1 + 6 * takes deep + 15 ≤ n + takes (deep + 1) := by omega
            have fin' := gs_mono (N' := fun s => ∃ pd', potOf s[0]? = some pd' ∧ ∃ (d : PyData) (u : Nat), PyData.none = .tuple [d, .int (u : Nat)] ∧ u ≤ m ∧ Cn (deep + 1) w u d ∧ Pot (n + takes (deep + 1)) pd') (R' := fun q s => ∃ pd', potOf s[0]? = some pd' ∧ ∃ (d : PyData) (u : Nat), q = .tuple [d, .int (u : Nat)] ∧ u ≤ m ∧ Cn (deep + 1) w u d ∧ Pot (n + takes (deep + 1)) pd') fin
              (fun s h => by obtain ⟨pd', e, d, u, a, b, c, g⟩ := h; exact ⟨pd', e, d, u, a, b, c, g.mono e15⟩) (fun q s h => by obtain ⟨pd', e, d, u, a, b, c, g⟩ := h; exact ⟨pd', e, d, u, a, b, c, g.mono e15⟩)
            repeat (first | exact fin' | decreasing_trivial_pre_omega)
end K07

namespace K07
open PySem PySem.Spec PyProof.Rows L2 Dl
local macro_rules | `(tactic| decreasing_trivial_pre_omega) => `(tactic| (first | with_reducible refine s_seq ?_ | with_reducible refine s_if ?_ | with_reducible refine s_set ?_ | with_reducible refine s_setIx ?_ | with_reducible refine s_ret ?_ | with_reducible refine s_nil ?_ | with_reducible refine s_own ?_ | with_reducible refine s_par ?_ | with_reducible refine t_tst ?_ | with_reducible refine t_and ?_ | with_reducible refine t_or ?_ | with_reducible refine t_not ?_ | with_reducible refine t_yes ?_ | with_reducible refine e_op ?_ | with_reducible refine e_un ?_ | with_reducible refine e_chain ?_ | with_reducible refine e_b ?_ | with_reducible refine e_c ?_ | with_reducible refine e_l ?_ | with_reducible refine e_tup ?_ | with_reducible refine e_call ?_ | with_reducible refine e_and ?_ | with_reducible refine e_or ?_ | with_reducible refine e_not ?_ | with_reducible refine e_if ?_ | with_reducible refine e_sl ?_ | with_reducible refine o_n ?_ | with_reducible refine o_s ?_ | with_reducible refine a_nil ?_ | with_reducible refine a_cons ?_ | with_reducible refine f_lst ?_ | with_reducible refine f_call ?_ | with_reducible refine f_itA ?_ | with_reducible refine f_r1 ?_ | with_reducible refine r_seq ?_ | with_reducible refine n_add ?_ | with_reducible refine n_sub ?_ | with_reducible refine n_gt ?_ | with_reducible refine n_ge ?_ | with_reducible refine n_lt ?_ | with_reducible refine n_le ?_ | with_reducible refine e_var (by with_unfolding_all rfl) ?_ | with_reducible refine e_ixc (by with_unfolding_all rfl) ?_ | with_reducible refine e_callM (by with_unfolding_all rfl) ?_ | with_reducible refine s_frz (by with_unfolding_all rfl) ?_ | with_reducible refine s_app (by with_unfolding_all rfl) ?_ | with_reducible refine few_and (by first | decide | (simp only [List.length_cons, List.length_nil, Nat.reduceAdd, Nat.reduceLeDiff])) ?_ | refine Or.inl ⟨by first | with_reducible rfl | with_reducible exact Bool.not_false, ?_⟩ | refine Or.inr ⟨by first | with_reducible rfl | with_reducible exact Bool.not_true, ?_⟩ | refine Exists.intro _ (Exists.intro _ ⟨rfl, rfl, gd rfl ?_⟩) | refine Exists.intro _ ⟨rfl, ?_⟩))
local macro_rules | `(tactic| decreasing_trivial) => `(tactic| repeat decreasing_trivial_pre_omega)
theorem takes6 : takes 6 = 186620 := by decide
theorem takes_le : ∀ {j k : Nat}, j ≤ k → takes j ≤ takes k := by
  intro j k h
  induction h with
  | refl => exact Nat.le_refl _
  | @step k _ ih => rw [takes_up]; omega
theorem condition_ok {zs : List Str} (l4 : zs.length = 4) (nm : ∀ z ∈ zs, nameB (.str z) = true) {n : Nat} {pd : List PyData} (h : Pot n pd) (hn : n ≤ 600000) :
    Gd (m__law_condition pd [.list (zs.map .str)]) fun q => ∃ u : Nat, u ≤ 30 ∧ Cn 6 false u q.1 ∧ Pot (n + 187000) q.2 := by
  unfold m__law_condition
  refine m_fnM rfl ?_
  unfold b__law_condition
  decreasing_trivial
  refine pot_at h (by omega) (by decide) (by decide) fun r1 p1 a1 b1 hp1 => ?_
  decreasing_trivial
  refine ix_list _ a1 (by exact b1) fun x hx => ?_
  have dx : ∃ deep : Nat, x = .int (deep : Int) ∧ 1 ≤ deep ∧ deep ≤ 6 := by
    simp only [List.mem_cons, List.not_mem_nil, or_false] at hx
    rcases hx with rfl | rfl | rfl | rfl
    · exact ⟨6, rfl, by decide, by decide⟩
    · exact ⟨6, rfl, by decide, by decide⟩
    · exact ⟨3, rfl, by decide, by decide⟩
    · exact ⟨1, rfl, by decide, by decide⟩
  obtain ⟨deep, rfl, d1, d6⟩ := dx
  decreasing_trivial
  refine pot_at hp1 (by omega) (by decide) (by decide) fun r2 p2 a2 b2 hp2 => ?_
  decreasing_trivial
  refine ix_list _ a2 (by exact b2) fun x hx => ?_
  have mx : ∃ m : Nat, x = .int (m : Int) ∧ 1 ≤ m ∧ m ≤ 30 := by
    simp only [List.mem_cons, List.not_mem_nil, or_false] at hx
    rcases hx with rfl | rfl | rfl
    · exact ⟨30, rfl, by decide, by decide⟩
    · exact ⟨9, rfl, by decide, by decide⟩
    · exact ⟨4, rfl, by decide, by decide⟩
  obtain ⟨m, rfl, m1, m30⟩ := mx
  decreasing_trivial
  have t6 := takes_le d6
  rw [takes6] at t6
  refine gd_mono (drawn_ok l4 nm deep 7 d1 (by omega) m false p2 _ m1 m30 hp2 (by omega)) fun q hq => ?_
  obtain ⟨q1, p3⟩ := q
  obtain ⟨d, u, e, hu, cn, hp3⟩ := hq
  have e' : q1 = .tuple [d, .int (u : Nat)] := e
  subst e'
  decreasing_trivial
  refine gd (at_0 _ _) ?_
  exact ⟨_, rfl, u, by omega, cn.mono d6, (show Pot _ p3 from hp3).mono (by omega)⟩
/-- a thing that the law asks: with room for its text -/
def Th (d : PyData) : Prop := Fit 40 d ∧ wt d ≤ 1000000
theorem th_atom {d : PyData} (h : Fit 0 d) (w : wt d ≤ 1000000) : Th d := ⟨fit_le h (by decide), w⟩
end K07

/-! conditions by their shape; what holds -/
namespace K07
open PySem PySem.Spec PyProof.Rows L2 Dl
local macro_rules | `(tactic| decreasing_trivial_pre_omega) => `(tactic| (first | with_reducible refine s_seq ?_ | with_reducible refine s_if ?_ | with_reducible refine s_set ?_ | with_reducible refine s_setIx ?_ | with_reducible refine s_ret ?_ | with_reducible refine s_nil ?_ | with_reducible refine s_own ?_ | with_reducible refine s_par ?_ | with_reducible refine t_tst ?_ | with_reducible refine t_and ?_ | with_reducible refine t_or ?_ | with_reducible refine t_not ?_ | with_reducible refine t_yes ?_ | with_reducible refine e_op ?_ | with_reducible refine e_un ?_ | with_reducible refine e_chain ?_ | with_reducible refine e_b ?_ | with_reducible refine e_c ?_ | with_reducible refine e_l ?_ | with_reducible refine e_tup ?_ | with_reducible refine e_call ?_ | with_reducible refine e_and ?_ | with_reducible refine e_or ?_ | with_reducible refine e_not ?_ | with_reducible refine e_if ?_ | with_reducible refine e_sl ?_ | with_reducible refine o_n ?_ | with_reducible refine o_s ?_ | with_reducible refine a_nil ?_ | with_reducible refine a_cons ?_ | with_reducible refine f_lst ?_ | with_reducible refine f_call ?_ | with_reducible refine f_itA ?_ | with_reducible refine f_r1 ?_ | with_reducible refine r_seq ?_ | with_reducible refine n_add ?_ | with_reducible refine n_sub ?_ | with_reducible refine n_gt ?_ | with_reducible refine n_ge ?_ | with_reducible refine n_lt ?_ | with_reducible refine n_le ?_ | with_reducible refine e_var (by with_unfolding_all rfl) ?_ | with_reducible refine e_ixc (by with_unfolding_all rfl) ?_ | with_reducible refine e_callM (by with_unfolding_all rfl) ?_ | with_reducible refine s_frz (by with_unfolding_all rfl) ?_ | with_reducible refine s_app (by with_unfolding_all rfl) ?_ | with_reducible refine few_and (by first | decide | (simp only [List.length_cons, List.length_nil, Nat.reduceAdd, Nat.reduceLeDiff])) ?_ | refine Or.inl ⟨by first | with_reducible rfl | with_reducible exact Bool.not_false, ?_⟩ | refine Or.inr ⟨by first | with_reducible rfl | with_reducible exact Bool.not_true, ?_⟩ | refine Exists.intro _ (Exists.intro _ ⟨rfl, rfl, gd rfl ?_⟩) | refine Exists.intro _ ⟨rfl, ?_⟩))
local macro_rules | `(tactic| decreasing_trivial) => `(tactic| repeat decreasing_trivial_pre_omega)
theorem eqv_str_left {p : Str} {a : PyData} (h : PyData.eqv (.str p) a = true) : a = .str p := by
  cases a with
  | str x =>
    have : (p == x) = true := h
    rw [beq_iff_eq.mp this]
  | _ => cases h
theorem eqv_str_right {p : Str} {a : PyData} (h : PyData.eqv a (.str p) = true) : a = .str p := by
  cases a with
  | str x =>
    have : (x == p) = true := h
    rw [beq_iff_eq.mp this]
  | _ => cases h
theorem two_words {p q : Str} {a : PyData} (h : isOf [.str p, .str q] a = true) : a = .str p ∨ a = .str q := by
  unfold isOf at h
  simp only [List.any_cons, List.any_nil, Bool.or_false, Bool.or_eq_true] at h
  exact h.imp eqv_str_left eqv_str_left
theorem four_words {a : PyData} (h : isOf pieces4 a = true) : (∃ w : Str, a = .str w ∧ (w = "is" ∨ w = "has") ∧ isOf isHas a = true) ∨ ∃ w : Str, a = .str w ∧ (w = "from" ∨ w = "to") ∧ isOf isHas a = false := by
  unfold isOf pieces4 at h
  simp only [List.any_cons, List.any_nil, Bool.or_false, Bool.or_eq_true] at h
  rcases h with h | h | h | h
  · cases eqv_str_left h; exact .inl ⟨_, rfl, .inl rfl, by decide +kernel⟩
  · cases eqv_str_left h; exact .inl ⟨_, rfl, .inr rfl, by decide +kernel⟩
  · cases eqv_str_left h; exact .inr ⟨_, rfl, .inl rfl, by decide +kernel⟩
  · cases eqv_str_left h; exact .inr ⟨_, rfl, .inr rfl, by decide +kernel⟩
inductive Hc : Nat → PyData → Prop
  | is_ {r : Nat} {w n x : Str} (hw : w = "is" ∨ w = "has") : Hc (r + 1) (.tuple [.str w, .str n, .str x])
  | fr_ {r : Nat} {w n : Str} {i : Int} (hw : w = "from" ∨ w = "to") : Hc (r + 1) (.tuple [.str w, .str n, .int i])
  | not_ {r : Nat} {d : PyData} (h : Hc r d) : Hc (r + 1) (.tuple [.str "not", d])
  | grp_ {r : Nat} {g : Str} {ds : List PyData} (hg : g = "and" ∨ g = "or") (h : ∀ d ∈ ds, Hc r d) (l : ds.length ≤ 6) : Hc (r + 1) (.tuple [.str g, .tuple ds])
  | rnd_ {r : Nat} {g n : Str} {d : PyData} (hg : g = "any" ∨ g = "every") (h : Hc r d) : Hc (r + 1) (.tuple [.str g, .str n, d])
theorem hc_piece {r : Nat} {a b c : PyData} (h4 : isOf pieces4 a = true) (h : pieceB a b c = true) : Hc (r + 1) (.tuple [a, b, c]) := by
  unfold pieceB at h
  rcases four_words h4 with ⟨w, rfl, hw, hi⟩ | ⟨w, rfl, hw, hi⟩
  · rw [if_pos hi, Bool.and_eq_true] at h
    obtain ⟨n, rfl⟩ := nameB_str h.1
    obtain ⟨v, rfl⟩ := nameB_str h.2
    exact .is_ hw
  · rw [if_neg (by rw [hi]; exact Bool.false_ne_true), Bool.and_eq_true] at h
    obtain ⟨n, rfl⟩ := nameB_str h.1
    cases c with
    | int i => exact .fr_ hw
    | _ => cases h.2
theorem hc_cnt : ∀ (r : Nat) (w : Bool) (d : PyData), 0 < cnt r w d → Hc r d
  | 0, w, d, h => by exact absurd h (by show ¬ (0 : Int) < 0; omega)
  | r + 1, w, d, h => by
    cases d with
    | tuple ds =>
      match ds, h with
      | [a, b], h =>
        rw [cnt2] at h
        split at h
        · rename_i hn
          cases eqv_str_right hn
          exact .not_ (hc_cnt r w b h)
        · split at h
          · rename_i hg
            have gg : ∃ g : Str, a = .str g ∧ (g = "and" ∨ g = "or") := (two_words hg).elim (fun e => ⟨_, e, .inl rfl⟩) fun e => ⟨_, e, .inr rfl⟩
            obtain ⟨g, rfl, gg⟩ := gg
            cases b with
            | tuple ps =>
              rw [groupOf_tup] at h
              split at h
              · rename_i hl
                unfold grp at h
                split at h
                · rename_i hp
                  rw [List.all_eq_true] at hp
                  have pos : ∀ c ∈ ps.map (cnt r w), 0 < c := fun c hc => of_decide_eq_true (hp c hc)
                  exact .grp_ gg (fun d hd => hc_cnt r w d (pos _ (List.mem_map_of_mem hd))) hl.2
                · exact absurd h (by omega)
              · exact absurd h (by omega)
            | _ => exact absurd h (by show ¬ (0 : Int) < 0; omega)
          · exact absurd h (by omega)
      | [a, b, c], h =>
        rw [cnt3] at h
        split at h
        · rename_i h4
          split at h
          · rename_i hp
            exact hc_piece h4 hp
          · exact absurd h (by omega)
        · split at h
          · rename_i hg
            simp only [Bool.and_eq_true] at hg
            obtain ⟨n, rfl⟩ := nameB_str hg.2.2
            have gg : ∃ g : Str, a = .str g ∧ (g = "any" ∨ g = "every") := (two_words hg.1).elim (fun e => ⟨_, e, .inl rfl⟩) fun e => ⟨_, e, .inr rfl⟩
            obtain ⟨g, rfl, gg⟩ := gg
            exact .rnd_ gg (hc_cnt r true c h)
          · exact absurd h (by omega)
      | [], h => exact absurd h (by show ¬ (0 : Int) < 0; omega)
      | [_], h => exact absurd h (by show ¬ (0 : Int) < 0; omega)
      | _ :: _ :: _ :: _ :: _, h => exact absurd h (by rw [count_long]; omega)
    | _ => exact absurd h (by rw [not_tuple (fun ds e => by cases e)]; omega)
/-! ### what holds -/
def fitV (w : Str) (v a : PyData) : Bool := if w = "is" then PyData.eqv a v else if w = "has" then (match a with
    | .tuple xs => xs.any fun z => PyData.eqv z v
    | _ => false) else match a, v with
    | .int i, .int j => if w = "from" then decide (j ≤ i) else decide (i ≤ j)
    | _, _ => false
def pcV (t : Str → Int → Option PyData) (w n : Str) (v : PyData) (p : Int) : Bool := match t n p with
  | some a => fitV w v a
  | none => match t n 0 with
    | some a => fitV w v a
    | none => false
def hv (t : Str → Int → Option PyData) (fo : Str → Int) : Nat → Int → PyData → Bool
  | 0, _, _ => false
  | r + 1, p, .tuple [.str w, .str n, v] => if w = "any" then (List.range (fo n).toNat).any (fun k => hv t fo r (1 + (k : Int)) v) else if w = "every" then (List.range (fo n).toNat).all (fun k => hv t fo r (1 + (k : Int)) v) else pcV t w n v p
  | r + 1, p, .tuple [.str w, x] => if w = "not" then !hv t fo r p x else match x with
    | .tuple ds => if w = "and" then ds.all (fun d => hv t fo r p d) else ds.any fun d => hv t fo r p d
    | _ => false
  | _ + 1, _, _ => false
/-- answers -/
inductive Av : PyData → Prop
  | str (x : Str) : Av (.str x)
  | tup (xs : List Str) : Av (.tuple (xs.map .str))
  | int (i : Int) : Av (.int i)
structure Tk (d : PyData) (t : Str → Int → Option PyData) : Prop where
  look : ∀ n p, lookD d (.tuple [.str n, .int p]) = some (t n p)
  av : ∀ n p a, t n p = some a → Av a
structure Fk (d : PyData) (fo : Str → Int) : Prop where
  look : ∀ n, lookD d (.str n) = some none ∧ fo n = 0 ∨ lookD d (.str n) = some (some (.int (fo n)))
  few : ∀ n, 0 ≤ fo n ∧ fo n ≤ 100
theorem whole_int (i : Int) : Gd (m_is_whole [.int i]) fun r => r = .bool true := by
  unfold m_is_whole
  refine m_fnP rfl ?_
  unfold b_is_whole
  decreasing_trivial
  refine gd (a := .bool true) rfl ?_
  decreasing_trivial
  refine gd (a := .bool false) rfl ?_
  decreasing_trivial
  rfl
theorem whole_str (x : Str) : Gd (m_is_whole [.str x]) fun r => r = .bool false := by
  unfold m_is_whole
  refine m_fnP rfl ?_
  unfold b_is_whole
  decreasing_trivial
  refine gd (a := .bool false) rfl ?_
  decreasing_trivial
  rfl
theorem whole_tup (x : List PyData) : Gd (m_is_whole [.tuple x]) fun r => r = .bool false := by
  unfold m_is_whole
  refine m_fnP rfl ?_
  unfold b_is_whole
  decreasing_trivial
  refine gd (a := .bool false) rfl ?_
  decreasing_trivial
  rfl
theorem eq_av {a : PyData} (h : Av a) (x : Str) : gEq a (.str x) = some (.bool (PyData.eqv a (.str x))) := by cases h <;> rfl
theorem in_av (xs : List Str) (x : Str) : gIn false (.str x) (.tuple (xs.map .str)) = some (.bool ((xs.map PyData.str).any fun z => PyData.eqv z (.str x))) := by
  show inD false _ _ = _
  unfold inD
  rw [if_pos ⟨rfl, scals xs⟩]
  rfl
theorem fits_is {w x : Str} {a : PyData} (hw : w = "is" ∨ w = "has") (h : Av a) : Gd (m_fits [.str w, .str x, a]) fun r => r = .bool (fitV w (.str x) a) := by
  unfold m_fits
  refine m_fnP rfl ?_
  unfold b_fits
  rcases hw with rfl | rfl
  · decreasing_trivial
    refine gd (a := .bool true) rfl ?_
    decreasing_trivial
    refine gd (eq_av h x) ?_
    rfl
  · decreasing_trivial
    refine gd (a := .bool false) rfl ?_
    decreasing_trivial
    refine gd (a := .bool true) rfl ?_
    decreasing_trivial
    cases h with
    | tup xs =>
      refine gd (a := .bool true) rfl ?_
      decreasing_trivial
      refine gd (in_av xs x) ?_
      rfl
    | str y =>
      refine gd (a := .bool false) rfl ?_
      decreasing_trivial
      rfl
    | int i =>
      refine gd (a := .bool false) rfl ?_
      decreasing_trivial
      rfl
theorem fits_fr {w : Str} {j : Int} {a : PyData} (hw : w = "from" ∨ w = "to") (h : Av a) : Gd (m_fits [.str w, .int j, a]) fun r => r = .bool (fitV w (.int j) a) := by
  unfold m_fits
  refine m_fnP rfl ?_
  unfold b_fits
  decreasing_trivial
  refine gd (a := .bool false) (by rcases hw with rfl | rfl <;> rfl) ?_
  decreasing_trivial
  refine gd (a := .bool false) (by rcases hw with rfl | rfl <;> rfl) ?_
  decreasing_trivial
  cases h with
  | int i =>
    refine gd_mono (whole_int i) fun r hr => ?_
    subst hr
    decreasing_trivial
    rcases hw with rfl | rfl
    · refine gd (a := .bool true) rfl ?_
      decreasing_trivial
      rfl
    · refine gd (a := .bool false) rfl ?_
      decreasing_trivial
      rfl
  | str y =>
    refine gd_mono (whole_str y) fun r hr => ?_
    subst hr
    decreasing_trivial
    rcases hw with rfl | rfl <;> rfl
  | tup xs =>
    refine gd_mono (whole_tup _) fun r hr => ?_
    subst hr
    decreasing_trivial
    rcases hw with rfl | rfl <;> rfl
end K07

/-! a piece, a condition: by the program and by the law -/
namespace K07
open PySem PySem.Spec PyProof.Rows L2 Dl
local macro_rules | `(tactic| decreasing_trivial_pre_omega) => `(tactic| (first | with_reducible refine s_seq ?_ | with_reducible refine s_if ?_ | with_reducible refine s_set ?_ | with_reducible refine s_setIx ?_ | with_reducible refine s_ret ?_ | with_reducible refine s_nil ?_ | with_reducible refine s_own ?_ | with_reducible refine s_par ?_ | with_reducible refine t_tst ?_ | with_reducible refine t_and ?_ | with_reducible refine t_or ?_ | with_reducible refine t_not ?_ | with_reducible refine t_yes ?_ | with_reducible refine e_op ?_ | with_reducible refine e_un ?_ | with_reducible refine e_chain ?_ | with_reducible refine e_b ?_ | with_reducible refine e_c ?_ | with_reducible refine e_l ?_ | with_reducible refine e_tup ?_ | with_reducible refine e_call ?_ | with_reducible refine e_and ?_ | with_reducible refine e_or ?_ | with_reducible refine e_not ?_ | with_reducible refine e_if ?_ | with_reducible refine e_sl ?_ | with_reducible refine o_n ?_ | with_reducible refine o_s ?_ | with_reducible refine a_nil ?_ | with_reducible refine a_cons ?_ | with_reducible refine f_lst ?_ | with_reducible refine f_call ?_ | with_reducible refine f_itA ?_ | with_reducible refine f_r1 ?_ | with_reducible refine r_seq ?_ | with_reducible refine n_add ?_ | with_reducible refine n_sub ?_ | with_reducible refine n_gt ?_ | with_reducible refine n_ge ?_ | with_reducible refine n_lt ?_ | with_reducible refine n_le ?_ | with_reducible refine e_var (by with_unfolding_all rfl) ?_ | with_reducible refine e_ixc (by with_unfolding_all rfl) ?_ | with_reducible refine e_callM (by with_unfolding_all rfl) ?_ | with_reducible refine s_frz (by with_unfolding_all rfl) ?_ | with_reducible refine s_app (by with_unfolding_all rfl) ?_ | with_reducible refine few_and (by first | decide | (simp only [List.length_cons, List.length_nil, Nat.reduceAdd, Nat.reduceLeDiff])) ?_ | refine Or.inl ⟨by first | with_reducible rfl | with_reducible exact Bool.not_false, ?_⟩ | refine Or.inr ⟨by first | with_reducible rfl | with_reducible exact Bool.not_true, ?_⟩ | refine Exists.intro _ (Exists.intro _ ⟨rfl, rfl, gd rfl ?_⟩) | refine Exists.intro _ ⟨rfl, ?_⟩))
local macro_rules | `(tactic| decreasing_trivial) => `(tactic| repeat decreasing_trivial_pre_omega)
theorem in_look {d k : PyData} {o : Option PyData} (h : lookD d k = some o) : gInD false k d = some (.bool o.isSome) := by unfold gInD; rw [h]; rfl
theorem notin_look {d k : PyData} {o : Option PyData} (h : lookD d k = some o) : gInD true k d = some (.bool o.isNone) := by unfold gInD; rw [h]; rfl
theorem get_look {d k a : PyData} (h : lookD d k = some (some a)) : gGetD d k = some a := by unfold gGetD; rw [h]; rfl
theorem piece_holds_ok {w n : Str} {v T : PyData} {t : Str → Int → Option PyData} {p : Int} (tk : Tk T t) (hf : ∀ a, Av a → Gd (m_fits [.str w, v, a]) fun r => r = .bool (fitV w v a)) :
    Gd (m__piece_holds [.tuple [.str w, .str n, v], T, .int p]) fun q => q = .bool (pcV t w n v p) := by
  unfold m__piece_holds
  refine m_fnP rfl ?_
  unfold b__piece_holds
  refine s_seq ?_
  refine s_asg ?_
  decreasing_trivial
  refine gd rfl ?_
  refine s_seq ?_
  refine s_for (fun r s => (r = [.tuple [.str n, .int p], .tuple [.str n, .int 0]] ∧ s = [.dat (.tuple [.str w, .str n, v]), .dat T, .dat (.int p), .dat (.str w), .dat (.str n), .dat v, .no]) ∨
    (r = [.tuple [.str n, .int 0]] ∧ t n p = none ∧ s = [.dat (.tuple [.str w, .str n, v]), .dat T, .dat (.int p), .dat (.str w), .dat (.str n), .dat v, .dat (.tuple [.str n, .int p])]) ∨
    (r = [] ∧ (t n p = none ∧ t n 0 = none) ∧ ∃ z, s = [.dat (.tuple [.str w, .str n, v]), .dat T, .dat (.int p), .dat (.str w), .dat (.str n), .dat v, .dat z])) ?_ ?_ ?_
  · decreasing_trivial
    exact .inl ⟨_, .inr rfl, .inl ⟨rfl, rfl⟩⟩
  · intro d r s1 hI
    rcases hI with ⟨e, rfl⟩ | ⟨e, t1, rfl⟩ | ⟨e, _⟩
    · cases e
      refine ⟨_, rfl, ?_⟩
      decreasing_trivial
      refine gd (in_look (tk.look n p)) ?_
      decreasing_trivial
      cases ht : t n p with
      | none => exact .inr ⟨rfl, s_nil (.inr (.inl ⟨rfl, rfl, rfl⟩))⟩
      | some a =>
        refine .inl ⟨rfl, ?_⟩
        decreasing_trivial
        refine gd (get_look (by rw [tk.look n p, ht])) ?_
        decreasing_trivial
        refine gd_mono (hf a (tk.av n p a ht)) fun q hq => ?_
        rw [hq]
        unfold pcV
        rw [ht]
    · cases e
      refine ⟨_, rfl, ?_⟩
      decreasing_trivial
      refine gd (in_look (tk.look n 0)) ?_
      decreasing_trivial
      cases ht : t n 0 with
      | none => exact .inr ⟨rfl, s_nil (.inr (.inr ⟨rfl, ⟨t1, rfl⟩, _, rfl⟩))⟩
      | some a =>
        refine .inl ⟨rfl, ?_⟩
        decreasing_trivial
        refine gd (get_look (by rw [tk.look n 0, ht])) ?_
        decreasing_trivial
        refine gd_mono (hf a (tk.av n 0 a ht)) fun q hq => ?_
        rw [hq]
        unfold pcV
        rw [t1, ht]
    · cases e
  · intro s1 hI
    rcases hI with ⟨e, _⟩ | ⟨e, _⟩ | ⟨_, ⟨t1, t2⟩, z, rfl⟩
    · cases e
    · cases e
    · decreasing_trivial
      unfold pcV
      rw [t1, t2]
theorem all_map (f : PyData → Bool) (ds : List PyData) : gAll [.list (ds.map fun d => .bool (f d))] = some (.bool (ds.all f)) := by
  show (truths _).map _ = _
  have : (ds.map fun d => PyData.bool (f d)) = (ds.map f).map .bool := by rw [List.map_map]; rfl
  rw [this, truths_map']
  simp [List.all_map]
theorem any_map (f : PyData → Bool) (ds : List PyData) : gAny [.list (ds.map fun d => .bool (f d))] = some (.bool (ds.any f)) := by
  show (truths _).map _ = _
  have : (ds.map fun d => PyData.bool (f d)) = (ds.map f).map .bool := by rw [List.map_map]; rfl
  rw [this, truths_map']
  simp [List.any_map]
theorem rng_one (m : Int) : rng 1 (m + 1) = (List.range m.toNat).map fun (k : Nat) => .int (1 + (k : Int)) := by
  unfold rng
  have : m + 1 - 1 = m := by omega
  rw [this]
def numOf : PyData → Int
  | .int i => i
  | _ => 0
theorem all_rng (f : Int → Bool) (m : Int) : gAll [.list ((rng 1 (m + 1)).map fun d => .bool (f (numOf d)))] = some (.bool ((List.range m.toNat).all fun k => f (1 + (k : Int)))) := by
  rw [all_map (fun d => f (numOf d)), rng_one, List.all_map]
  rfl
theorem any_rng (f : Int → Bool) (m : Int) : gAny [.list ((rng 1 (m + 1)).map fun d => .bool (f (numOf d)))] = some (.bool ((List.range m.toNat).any fun k => f (1 + (k : Int)))) := by
  rw [any_map (fun d => f (numOf d)), rng_one, List.any_map]
  rfl
theorem rng_len {m : Int} (h : 0 ≤ m ∧ m ≤ 100) : (rng 1 (m + 1)).length < sizeLine := by
  rw [rng_one, List.length_map, List.length_range]
  exact Nat.lt_of_le_of_lt (show m.toNat ≤ 100 by omega) (by decide)
theorem rng_mem {m : Int} {d : PyData} (h : d ∈ rng 1 (m + 1)) : ∃ i, d = .int i := by
  rw [rng_one] at h
  obtain ⟨k, _, rfl⟩ := List.mem_map.mp h
  exact ⟨_, rfl⟩
theorem r2_of {fa fb : DE} {s : Sl} {QA : List PyData → Sl → Prop} (h : Ge (fa s) fun a s1 => Ge (fb s1) fun b s2 => ∃ n : Int, a = .int 1 ∧ b = .int (n + 1) ∧ (0 ≤ n ∧ n ≤ 100) ∧ QA (rng 1 (n + 1)) s2) : Ge (itR2 fa fb s) QA := by
  obtain ⟨a, s1, e, b, s2, e2, n, rfl, rfl, l, k⟩ := h
  exact ⟨_, s2, by unfold itR2; rw [e, Option.bind_some, e2, Option.bind_some]; simp only; rw [if_pos ⟨⟨by decide, by decide⟩, by omega, by omega⟩], k⟩
theorem get2_ok {F : PyData} {fo : Str → Int} (fk : Fk F fo) (n : Str) : Gd (lookD F (.str n)) fun o => o.getD (.int 0) = .int (fo n) := by
  rcases fk.look n with ⟨e, z⟩ | e
  · exact gd e (by rw [z]; rfl)
  · exact gd e rfl
theorem hv_piece {t : Str → Int → Option PyData} {fo : Str → Int} {r : Nat} {p : Int} {w n : Str} {v : PyData} (h1 : w ≠ "any") (h2 : w ≠ "every") : hv t fo (r + 1) p (.tuple [.str w, .str n, v]) = pcV t w n v p := by
  show (if w = "any" then _ else _) = _
  rw [if_neg h1, if_neg h2]
theorem hc_tup {r : Nat} {d : PyData} (h : Hc r d) : ∃ ds, d = .tuple ds := by cases h <;> exact ⟨_, rfl⟩
theorem hv_not {t : Str → Int → Option PyData} {fo : Str → Int} {r : Nat} {p : Int} {d : PyData} (h : Hc r d) : hv t fo (r + 1) p (.tuple [.str "not", d]) = !hv t fo r p d := by
  obtain ⟨ds, rfl⟩ := hc_tup h
  rfl
theorem holds_by_ok {T F : PyData} {t : Str → Int → Option PyData} {fo : Str → Int} (tk : Tk T t) (fk : Fk F fo) : ∀ (r : Nat) (d : PyData), Hc r d → ∀ n, r ≤ n → ∀ p : Int, Gd (m_holds_by n [d, T, .int p, F]) fun q => q = .bool (hv t fo r p d)
  | 0, d, h, _, _, _ => by cases h
  | r + 1, d, h, n, hn, p => by
    obtain ⟨n, rfl⟩ : ∃ q, n = q + 1 := ⟨n - 1, by omega⟩
    unfold m_holds_by
    refine m_fnP rfl ?_
    unfold b_holds_by
    cases h with
    | is_ hw =>
      rename_i w m x
      decreasing_trivial
      refine gd (at_0 _ _) ?_
      decreasing_trivial
      refine gd (a := .bool false) (by rcases hw with rfl | rfl <;> rfl) ?_
      decreasing_trivial
      refine gd (a := .bool false) (by rcases hw with rfl | rfl <;> rfl) ?_
      decreasing_trivial
      refine gd (a := .bool false) (by rcases hw with rfl | rfl <;> rfl) ?_
      decreasing_trivial
      refine gd_mono (piece_holds_ok tk fun a ha => fits_is hw ha) fun q hq => ?_
      rw [hq, hv_piece (by rcases hw with rfl | rfl <;> decide +kernel) (by rcases hw with rfl | rfl <;> decide +kernel)]
    | fr_ hw =>
      rename_i w m x
      decreasing_trivial
      refine gd (at_0 _ _) ?_
      decreasing_trivial
      refine gd (a := .bool false) (by rcases hw with rfl | rfl <;> rfl) ?_
      decreasing_trivial
      refine gd (a := .bool false) (by rcases hw with rfl | rfl <;> rfl) ?_
      decreasing_trivial
      refine gd (a := .bool false) (by rcases hw with rfl | rfl <;> rfl) ?_
      decreasing_trivial
      refine gd_mono (piece_holds_ok tk fun a ha => fits_fr hw ha) fun q hq => ?_
      rw [hq, hv_piece (by rcases hw with rfl | rfl <;> decide +kernel) (by rcases hw with rfl | rfl <;> decide +kernel)]
    | not_ h =>
      rename_i c
      decreasing_trivial
      refine gd (at_0 _ _) ?_
      decreasing_trivial
      refine gd (a := .bool true) rfl ?_
      decreasing_trivial
      refine gd (at_1 _ _ _) ?_
      decreasing_trivial
      refine gd_mono (holds_by_ok tk fk r c h n (by omega) p) fun q hq => ?_
      exact ⟨_, hq, by rw [hv_not h]⟩
    | grp_ hg h l =>
      rename_i g ds
      decreasing_trivial
      refine gd (at_0 _ _) ?_
      decreasing_trivial
      refine gd (a := .bool false) (by rcases hg with rfl | rfl <;> rfl) ?_
      decreasing_trivial
      refine gd (a := .bool true) (by rcases hg with rfl | rfl <;> rfl) ?_
      decreasing_trivial
      refine f_lc_pure (fun _ => true) (fun c => .bool (hv t fo r p c)) ?_
      decreasing_trivial
      refine gd (at_1 _ _ _) ?_
      refine .inl ⟨ds, .inr rfl, rfl, Nat.lt_of_le_of_lt l (by decide), fun c hc => ⟨?_, fun _ => ?_⟩, ?_⟩
      · decreasing_trivial
        exact ⟨rfl, rfl⟩
      · decreasing_trivial
        refine gd_mono (holds_by_ok tk fk r c (h c hc) n (by omega) p) fun q hq => ?_
        exact ⟨hq, rfl⟩
      · rw [List.filter_eq_self.mpr (fun _ _ => rfl)]
        rcases hg with rfl | rfl
        · decreasing_trivial
          refine gd (a := .bool true) rfl ?_
          decreasing_trivial
          exact gd (all_map _ ds) rfl
        · decreasing_trivial
          refine gd (a := .bool false) rfl ?_
          decreasing_trivial
          exact gd (any_map _ ds) rfl
    | rnd_ hg h =>
      rename_i g m c
      decreasing_trivial
      refine gd (at_0 _ _) ?_
      decreasing_trivial
      refine gd (a := .bool false) (by rcases hg with rfl | rfl <;> rfl) ?_
      decreasing_trivial
      refine gd (a := .bool false) (by rcases hg with rfl | rfl <;> rfl) ?_
      decreasing_trivial
      refine gd (a := .bool true) (by rcases hg with rfl | rfl <;> rfl) ?_
      decreasing_trivial
      refine e_get2 ?_
      decreasing_trivial
      refine gd (at_1 _ _ _) ?_
      decreasing_trivial
      refine gd_mono (get2_ok fk m) fun o ho => ?_
      rw [ho]
      decreasing_trivial
      refine f_lc_pure (fun _ => true) (fun k => .bool (hv t fo r (numOf k) c)) ?_
      refine r2_of ?_
      decreasing_trivial
      refine ⟨fo m, rfl, rfl, fk.few m, rfl, rng_len (fk.few m), fun k hk => ⟨?_, fun _ => ?_⟩, ?_⟩
      · decreasing_trivial
        exact ⟨rfl, rfl⟩
      · obtain ⟨i, rfl⟩ := rng_mem hk
        decreasing_trivial
        refine gd (at_2 _ _ _ _) ?_
        decreasing_trivial
        refine gd_mono (holds_by_ok tk fk r c h n (by omega) i) fun q hq => ?_
        exact ⟨hq, rfl⟩
      · rw [List.filter_eq_self.mpr (fun _ _ => rfl)]
        rcases hg with rfl | rfl
        · decreasing_trivial
          refine gd (a := .bool true) rfl ?_
          decreasing_trivial
          exact gd (any_rng (fun i => hv t fo r i c) _) rfl
        · decreasing_trivial
          refine gd (a := .bool false) rfl ?_
          decreasing_trivial
          exact gd (all_rng (fun i => hv t fo r i c) _) rfl
end K07

/-! what holds, by the law -/
namespace K07
open PySem PySem.Spec PyProof.Rows L2 Dl
local macro_rules | `(tactic| decreasing_trivial_pre_omega) => `(tactic| (first | with_reducible refine s_seq ?_ | with_reducible refine s_if ?_ | with_reducible refine s_set ?_ | with_reducible refine s_setIx ?_ | with_reducible refine s_ret ?_ | with_reducible refine s_nil ?_ | with_reducible refine s_own ?_ | with_reducible refine s_par ?_ | with_reducible refine t_tst ?_ | with_reducible refine t_and ?_ | with_reducible refine t_or ?_ | with_reducible refine t_not ?_ | with_reducible refine t_yes ?_ | with_reducible refine e_op ?_ | with_reducible refine e_un ?_ | with_reducible refine e_chain ?_ | with_reducible refine e_b ?_ | with_reducible refine e_c ?_ | with_reducible refine e_l ?_ | with_reducible refine e_tup ?_ | with_reducible refine e_call ?_ | with_reducible refine e_and ?_ | with_reducible refine e_or ?_ | with_reducible refine e_not ?_ | with_reducible refine e_if ?_ | with_reducible refine e_sl ?_ | with_reducible refine o_n ?_ | with_reducible refine o_s ?_ | with_reducible refine a_nil ?_ | with_reducible refine a_cons ?_ | with_reducible refine f_lst ?_ | with_reducible refine f_call ?_ | with_reducible refine f_itA ?_ | with_reducible refine f_r1 ?_ | with_reducible refine r_seq ?_ | with_reducible refine n_add ?_ | with_reducible refine n_sub ?_ | with_reducible refine n_gt ?_ | with_reducible refine n_ge ?_ | with_reducible refine n_lt ?_ | with_reducible refine n_le ?_ | with_reducible refine e_var (by with_unfolding_all rfl) ?_ | with_reducible refine e_ixc (by with_unfolding_all rfl) ?_ | with_reducible refine e_callM (by with_unfolding_all rfl) ?_ | with_reducible refine s_frz (by with_unfolding_all rfl) ?_ | with_reducible refine s_app (by with_unfolding_all rfl) ?_ | with_reducible refine few_and (by first | decide | (simp only [List.length_cons, List.length_nil, Nat.reduceAdd, Nat.reduceLeDiff])) ?_ | refine Or.inl ⟨by first | with_reducible rfl | with_reducible exact Bool.not_false, ?_⟩ | refine Or.inr ⟨by first | with_reducible rfl | with_reducible exact Bool.not_true, ?_⟩ | refine Exists.intro _ (Exists.intro _ ⟨rfl, rfl, gd rfl ?_⟩) | refine Exists.intro _ ⟨rfl, ?_⟩))
local macro_rules | `(tactic| decreasing_trivial) => `(tactic| repeat decreasing_trivial_pre_omega)
def restL : DS := (sSeq (sIf (dTst (dOp (gInD true) (dVar 9) (dVar 1)))
  (sRet (dC (.bool false)))
  sNil)
  (sSeq (sPar 10 11 (dOp gGetD (dVar 1) (dVar 9)) (dOp gIx (dVar 0) (dC (.int 2))))
  (sSeq (sIf (dTst (dOp gEq (dVar 4) (dC (.str "is"))))
  (sRet (dAnd (dUn (gIsi "str") (dVar 10)) (dOp gEq (dVar 10) (dVar 11))))
  sNil)
  (sSeq (sIf (dTst (dOp gEq (dVar 4) (dC (.str "has"))))
  (sRet (dAnd (dUn (gIsi "tuple") (dVar 10)) (dOp (gIn false) (dVar 11) (dVar 10))))
  sNil)
  (sSeq (sIf (dNotT (dTst (dUn (gIsi "int") (dVar 10))))
  (sRet (dC (.bool false)))
  sNil)
  (sRet (dIf (dTst (dOp gEq (dVar 4) (dC (.str "from")))) (dOp gGe (dVar 10) (dVar 11)) (dOp gLe (dVar 10) (dVar 11)))))))))
theorem restL_ok {w n : Str} {v a T F : PyData} {t : Str → Int → Option PyData} {p q : Int} (tk : Tk T t) (ht : t n q = some a) (hw : ((w = "is" ∨ w = "has") ∧ ∃ x, v = .str x) ∨ ((w = "from" ∨ w = "to") ∧ ∃ j, v = .int j)) :
    Gs (restL [.dat (.tuple [.str w, .str n, v]), .dat T, .dat (.int p), .dat F, .dat (.str w), .no, .no, .no, .no, .dat (.tuple [.str n, .int q]), .no, .no]) (fun _ => False) fun d _ => d = .bool (fitV w v a) := by
  unfold restL
  decreasing_trivial
  refine gd (notin_look (by rw [tk.look n q, ht])) ?_
  decreasing_trivial
  refine .inr ⟨rfl, ?_⟩
  decreasing_trivial
  refine gd (get_look (by rw [tk.look n q, ht])) ?_
  decreasing_trivial
  refine gd (at_2 _ _ _ _) ?_
  have av := tk.av n q a ht
  rcases hw with ⟨hw, x, rfl⟩ | ⟨hw, j, rfl⟩
  · rcases hw with rfl | rfl
    · decreasing_trivial
      refine gd (a := .bool true) rfl ?_
      decreasing_trivial
      cases av with
      | str y =>
        refine gd (a := .bool true) rfl ?_
        decreasing_trivial
        refine gd (eq_av (.str y) x) ?_
        rfl
      | tup xs =>
        refine gd (a := .bool false) rfl ?_
        decreasing_trivial
        rfl
      | int i =>
        refine gd (a := .bool false) rfl ?_
        decreasing_trivial
        rfl
    · decreasing_trivial
      refine gd (a := .bool false) rfl ?_
      decreasing_trivial
      refine gd (a := .bool true) rfl ?_
      decreasing_trivial
      cases av with
      | tup xs =>
        refine gd (a := .bool true) rfl ?_
        decreasing_trivial
        refine gd (in_av xs x) ?_
        rfl
      | str y =>
        refine gd (a := .bool false) rfl ?_
        decreasing_trivial
        rfl
      | int i =>
        refine gd (a := .bool false) rfl ?_
        decreasing_trivial
        rfl
  · decreasing_trivial
    refine gd (a := .bool false) (by rcases hw with rfl | rfl <;> rfl) ?_
    decreasing_trivial
    refine gd (a := .bool false) (by rcases hw with rfl | rfl <;> rfl) ?_
    decreasing_trivial
    cases av with
    | int i =>
      refine gd (a := .bool true) rfl ?_
      decreasing_trivial
      rcases hw with rfl | rfl
      · refine gd (a := .bool true) rfl ?_
        decreasing_trivial
        rfl
      · refine gd (a := .bool false) rfl ?_
        decreasing_trivial
        rfl
    | str y =>
      refine gd (a := .bool false) rfl ?_
      decreasing_trivial
      rcases hw with rfl | rfl <;> rfl
    | tup xs =>
      refine gd (a := .bool false) rfl ?_
      decreasing_trivial
      rcases hw with rfl | rfl <;> rfl
theorem law_piece_ok {w n : Str} {v T F : PyData} {t : Str → Int → Option PyData} {p : Int} (tk : Tk T t) (hw : ((w = "is" ∨ w = "has") ∧ ∃ x, v = .str x) ∨ ((w = "from" ∨ w = "to") ∧ ∃ j, v = .int j)) :
    Gs (sSeq (sSet 9 (dIf (dTst (dOp (gInD false) (dTup (aCons (dOp gIx (dVar 0) (dC (.int 1))) (aCons (dVar 2) aNil))) (dVar 1))) (dTup (aCons (dOp gIx (dVar 0) (dC (.int 1))) (aCons (dVar 2) aNil))) (dTup (aCons (dOp gIx (dVar 0) (dC (.int 1))) (aCons (dC (.int 0)) aNil))))) restL [.dat (.tuple [.str w, .str n, v]), .dat T, .dat (.int p), .dat F, .dat (.str w), .no, .no, .no, .no, .no, .no, .no]) (fun _ => False) fun d _ => d = .bool (pcV t w n v p) := by
  refine s_seq ?_
  decreasing_trivial
  refine gd (at_1 _ _ _) ?_
  decreasing_trivial
  refine gd (in_look (tk.look n p)) ?_
  decreasing_trivial
  cases ht : t n p with
  | some a =>
    refine .inl ⟨rfl, ?_⟩
    decreasing_trivial
    refine gd (at_1 _ _ _) ?_
    decreasing_trivial
    refine gs_mono (restL_ok tk ht hw) (fun _ z => z) fun d _ e => ?_
    rw [e]
    unfold pcV
    rw [ht]
  | none =>
    refine .inr ⟨rfl, ?_⟩
    decreasing_trivial
    refine gd (at_1 _ _ _) ?_
    decreasing_trivial
    cases h0 : t n 0 with
    | some a =>
      refine gs_mono (restL_ok tk h0 hw) (fun _ z => z) fun d _ e => ?_
      rw [e]
      unfold pcV
      rw [ht, h0]
    | none =>
      unfold restL
      decreasing_trivial
      refine gd (notin_look (tk.look n 0)) ?_
      rw [h0]
      decreasing_trivial
      refine .inl ⟨rfl, ?_⟩
      decreasing_trivial
      unfold pcV
      rw [ht, h0]
theorem noF (bs : List Bool) : gIn true (.bool false) (.list (bs.map .bool)) = some (.bool (bs.all id)) := by
  show inD true _ _ = _
  unfold inD
  have : ((bs.map PyData.bool).all scalD) = true := by
    rw [List.all_eq_true]
    intro d hd
    obtain ⟨b, _, rfl⟩ := List.mem_map.mp hd
    rfl
  rw [if_pos ⟨rfl, this⟩]
  congr 2
  induction bs with
  | nil => rfl
  | cons b r ih =>
    have ih := ih (by rw [List.map_cons, List.all_cons, Bool.and_eq_true] at this; exact this.2)
    simp only [if_true, List.map_cons, List.any_cons, List.all_cons, Bool.not_or] at ih ⊢
    rw [ih]
    cases b <;> rfl
theorem hasT (bs : List Bool) : gIn false (.bool true) (.list (bs.map .bool)) = some (.bool (bs.any id)) := by
  show inD false _ _ = _
  unfold inD
  have : ((bs.map PyData.bool).all scalD) = true := by
    rw [List.all_eq_true]
    intro d hd
    obtain ⟨b, _, rfl⟩ := List.mem_map.mp hd
    rfl
  rw [if_pos ⟨rfl, this⟩]
  congr 2
  induction bs with
  | nil => rfl
  | cons b r ih =>
    have ih := ih (by rw [List.map_cons, List.all_cons, Bool.and_eq_true] at this; exact this.2)
    simp only [Bool.false_eq_true, if_false, List.map_cons, List.any_cons] at ih ⊢
    rw [ih]
    cases b <;> rfl
theorem noF_map (f : PyData → Bool) (ds : List PyData) : gIn true (.bool false) (.list (ds.map fun d => .bool (f d))) = some (.bool (ds.all f)) := by
  have : (ds.map fun d => PyData.bool (f d)) = (ds.map f).map .bool := by rw [List.map_map]; rfl
  rw [this, noF]
  simp [List.all_map]
theorem hasT_map (f : PyData → Bool) (ds : List PyData) : gIn false (.bool true) (.list (ds.map fun d => .bool (f d))) = some (.bool (ds.any f)) := by
  have : (ds.map fun d => PyData.bool (f d)) = (ds.map f).map .bool := by rw [List.map_map]; rfl
  rw [this, hasT]
  simp [List.any_map]
theorem noF_rng (f : Int → Bool) (m : Int) : gIn true (.bool false) (.list ((rng 1 (m + 1)).map fun d => .bool (f (numOf d)))) = some (.bool ((List.range m.toNat).all fun k => f (1 + (k : Int)))) := by
  rw [noF_map (fun d => f (numOf d)), rng_one, List.all_map]
  rfl
theorem hasT_rng (f : Int → Bool) (m : Int) : gIn false (.bool true) (.list ((rng 1 (m + 1)).map fun d => .bool (f (numOf d)))) = some (.bool ((List.range m.toNat).any fun k => f (1 + (k : Int)))) := by
  rw [hasT_map (fun d => f (numOf d)), rng_one, List.any_map]
  rfl
theorem law_holds_ok {T F : PyData} {t : Str → Int → Option PyData} {fo : Str → Int} (tk : Tk T t) (fk : Fk F fo) : ∀ (r : Nat) (d : PyData), Hc r d → ∀ n, r ≤ n → ∀ p : Int, Gd (m__law_holds n [d, T, .int p, F]) fun q => q = .bool (hv t fo r p d)
  | 0, d, h, _, _, _ => by cases h
  | r + 1, d, h, n, hn, p => by
    obtain ⟨n, rfl⟩ : ∃ q, n = q + 1 := ⟨n - 1, by omega⟩
    unfold m__law_holds
    refine m_fnP rfl ?_
    unfold b__law_holds
    cases h with
    | is_ hw =>
      rename_i w m x
      decreasing_trivial
      refine gd (at_0 _ _) ?_
      decreasing_trivial
      refine gd (a := .bool false) (by rcases hw with rfl | rfl <;> rfl) ?_
      decreasing_trivial
      refine gd (a := .bool false) (by rcases hw with rfl | rfl <;> rfl) ?_
      decreasing_trivial
      refine gd (a := .bool false) (by rcases hw with rfl | rfl <;> rfl) ?_
      refine ⟨_, rfl, .inr ⟨rfl, s_nil ?_⟩⟩
      refine gs_mono (law_piece_ok tk (.inl ⟨hw, x, rfl⟩)) (fun _ z => z.elim) fun d _ e => ?_
      rw [e, hv_piece (by rcases hw with rfl | rfl <;> decide +kernel) (by rcases hw with rfl | rfl <;> decide +kernel)]
    | fr_ hw =>
      rename_i w m x
      decreasing_trivial
      refine gd (at_0 _ _) ?_
      decreasing_trivial
      refine gd (a := .bool false) (by rcases hw with rfl | rfl <;> rfl) ?_
      decreasing_trivial
      refine gd (a := .bool false) (by rcases hw with rfl | rfl <;> rfl) ?_
      decreasing_trivial
      refine gd (a := .bool false) (by rcases hw with rfl | rfl <;> rfl) ?_
      refine ⟨_, rfl, .inr ⟨rfl, s_nil ?_⟩⟩
      refine gs_mono (law_piece_ok tk (.inr ⟨hw, x, rfl⟩)) (fun _ z => z.elim) fun d _ e => ?_
      rw [e, hv_piece (by rcases hw with rfl | rfl <;> decide +kernel) (by rcases hw with rfl | rfl <;> decide +kernel)]
    | not_ h =>
      rename_i c
      decreasing_trivial
      refine gd (at_0 _ _) ?_
      decreasing_trivial
      refine gd (a := .bool true) rfl ?_
      decreasing_trivial
      refine gd (at_1 _ _ _) ?_
      decreasing_trivial
      refine gd_mono (law_holds_ok tk fk r c h n (by omega) p) fun q hq => ?_
      exact ⟨_, hq, by rw [hv_not h]⟩
    | grp_ hg h l =>
      rename_i g ds
      decreasing_trivial
      refine gd (at_0 _ _) ?_
      decreasing_trivial
      refine gd (a := .bool false) (by rcases hg with rfl | rfl <;> rfl) ?_
      decreasing_trivial
      refine gd (a := .bool true) (by rcases hg with rfl | rfl <;> rfl) ?_
      decreasing_trivial
      refine f_lc_pure (fun _ => true) (fun c => .bool (hv t fo r p c)) ?_
      decreasing_trivial
      refine gd (at_1 _ _ _) ?_
      refine .inl ⟨ds, .inr rfl, rfl, Nat.lt_of_le_of_lt l (by decide), fun c hc => ⟨?_, fun _ => ?_⟩, ?_⟩
      · decreasing_trivial
        exact ⟨rfl, rfl⟩
      · decreasing_trivial
        refine gd_mono (law_holds_ok tk fk r c (h c hc) n (by omega) p) fun q hq => ?_
        exact ⟨hq, rfl⟩
      · rw [List.filter_eq_self.mpr (fun _ _ => rfl)]
        rcases hg with rfl | rfl
        · decreasing_trivial
          refine gd (a := .bool true) rfl ?_
          decreasing_trivial
          exact gd (noF_map _ ds) rfl
        · decreasing_trivial
          refine gd (a := .bool false) rfl ?_
          decreasing_trivial
          exact gd (hasT_map _ ds) rfl
    | rnd_ hg h =>
      rename_i g m c
      decreasing_trivial
      refine gd (at_0 _ _) ?_
      decreasing_trivial
      refine gd (a := .bool false) (by rcases hg with rfl | rfl <;> rfl) ?_
      decreasing_trivial
      refine gd (a := .bool false) (by rcases hg with rfl | rfl <;> rfl) ?_
      decreasing_trivial
      refine gd (a := .bool true) (by rcases hg with rfl | rfl <;> rfl) ?_
      decreasing_trivial
      refine gd (at_1 _ _ _) ?_
      decreasing_trivial
      have many : ∀ {Q : PyData → Sl → Prop} {s : Sl} {b : Bool} (_ : gInD false (.str m) F = some (.bool b)) (_ : s[0]? = some (.dat (.tuple [.str g, .str m, c])) ∧ s[3]? = some (.dat F)), Q (.int (fo m)) s → (b = true ∧ Ge (dOp gGetD (dVar 3) (dOp gIx (dVar 0) (dC (.int 1))) s) Q) ∨ (b = false ∧ Ge (dC (.int 0) s) Q) := fun {Q s b} hb hs k => by
        rcases fk.look m with ⟨e, z⟩ | e
        · rw [in_look e] at hb
          cases hb
          exact .inr ⟨rfl, e_c (z ▸ k)⟩
        · rw [in_look e] at hb
          cases hb
          refine .inl ⟨rfl, ?_⟩
          refine e_op ?_
          refine e_var hs.2 ?_
          refine e_op ?_
          refine e_var hs.1 ?_
          refine e_c ?_
          refine gd (at_1 _ _ _) ?_
          exact gd (get_look e) k
      have inn : ∃ b, gInD false (.str m) F = some (.bool b) := by
        rcases fk.look m with ⟨e, z⟩ | e
        · exact ⟨_, in_look e⟩
        · exact ⟨_, in_look e⟩
      obtain ⟨b, hb⟩ := inn
      refine gd hb ?_
      refine ⟨_, rfl, ?_⟩
      refine many hb ⟨rfl, rfl⟩ ?_
      refine s_seq ?_
      refine s_set ?_
      refine e_l ?_
      refine f_lc_pure (fun _ => true) (fun k => .bool (hv t fo r (numOf k) c)) ?_
      refine r2_of ?_
      decreasing_trivial
      refine ⟨fo m, rfl, rfl, fk.few m, rfl, rng_len (fk.few m), fun k hk => ⟨?_, fun _ => ?_⟩, ?_⟩
      · decreasing_trivial
        exact ⟨rfl, rfl⟩
      · obtain ⟨i, rfl⟩ := rng_mem hk
        decreasing_trivial
        refine gd (at_2 _ _ _ _) ?_
        decreasing_trivial
        refine gd_mono (law_holds_ok tk fk r c h n (by omega) i) fun q hq => ?_
        exact ⟨hq, rfl⟩
      · rw [List.filter_eq_self.mpr (fun _ _ => rfl)]
        rcases hg with rfl | rfl
        · decreasing_trivial
          refine gd (a := .bool true) rfl ?_
          decreasing_trivial
          exact gd (hasT_rng (fun i => hv t fo r i c) _) rfl
        · decreasing_trivial
          refine gd (a := .bool false) rfl ?_
          decreasing_trivial
          exact gd (noF_rng (fun i => hv t fo r i c) _) rfl
end K07

/-! holds, and as the law calls it -/
namespace K07
open PySem PySem.Spec PyProof.Rows L2 Dl
local macro_rules | `(tactic| decreasing_trivial_pre_omega) => `(tactic| (first | with_reducible refine s_seq ?_ | with_reducible refine s_if ?_ | with_reducible refine s_set ?_ | with_reducible refine s_setIx ?_ | with_reducible refine s_ret ?_ | with_reducible refine s_nil ?_ | with_reducible refine s_own ?_ | with_reducible refine s_par ?_ | with_reducible refine t_tst ?_ | with_reducible refine t_and ?_ | with_reducible refine t_or ?_ | with_reducible refine t_not ?_ | with_reducible refine t_yes ?_ | with_reducible refine e_op ?_ | with_reducible refine e_un ?_ | with_reducible refine e_chain ?_ | with_reducible refine e_b ?_ | with_reducible refine e_c ?_ | with_reducible refine e_l ?_ | with_reducible refine e_tup ?_ | with_reducible refine e_call ?_ | with_reducible refine e_and ?_ | with_reducible refine e_or ?_ | with_reducible refine e_not ?_ | with_reducible refine e_if ?_ | with_reducible refine e_sl ?_ | with_reducible refine o_n ?_ | with_reducible refine o_s ?_ | with_reducible refine a_nil ?_ | with_reducible refine a_cons ?_ | with_reducible refine f_lst ?_ | with_reducible refine f_call ?_ | with_reducible refine f_itA ?_ | with_reducible refine f_r1 ?_ | with_reducible refine r_seq ?_ | with_reducible refine n_add ?_ | with_reducible refine n_sub ?_ | with_reducible refine n_gt ?_ | with_reducible refine n_ge ?_ | with_reducible refine n_lt ?_ | with_reducible refine n_le ?_ | with_reducible refine e_var (by with_unfolding_all rfl) ?_ | with_reducible refine e_ixc (by with_unfolding_all rfl) ?_ | with_reducible refine e_callM (by with_unfolding_all rfl) ?_ | with_reducible refine s_frz (by with_unfolding_all rfl) ?_ | with_reducible refine s_app (by with_unfolding_all rfl) ?_ | with_reducible refine few_and (by first | decide | (simp only [List.length_cons, List.length_nil, Nat.reduceAdd, Nat.reduceLeDiff])) ?_ | refine Or.inl ⟨by first | with_reducible rfl | with_reducible exact Bool.not_false, ?_⟩ | refine Or.inr ⟨by first | with_reducible rfl | with_reducible exact Bool.not_true, ?_⟩ | refine Exists.intro _ (Exists.intro _ ⟨rfl, rfl, gd rfl ?_⟩) | refine Exists.intro _ ⟨rfl, ?_⟩))
local macro_rules | `(tactic| decreasing_trivial) => `(tactic| repeat decreasing_trivial_pre_omega)
structure Gx (o : Option Fx) (N : Sl → Prop) (R : PyData → Sl → Prop) (E : Str → Prop) : Prop where
  ex : (∃ s, o = some (.fl (.nx s)) ∧ N s) ∨ (∃ d s, o = some (.fl (.rt d s)) ∧ R d s) ∨ ∃ c s, o = some (.ex c s) ∧ E c
section
variable {N : Sl → Prop} {R : PyData → Sl → Prop} {E : Str → Prop} {s : Sl} {f g : DSx} {fs : DS} {t : DT} {ga : DA}
theorem x_up (h : Gs (fs s) N R) : Gx (xsUp fs s) N R E := by
  obtain ⟨⟨s1, e, k⟩ | ⟨d, s1, e, k⟩⟩ := h
  · exact ⟨.inl ⟨s1, by unfold xsUp; rw [e]; rfl, k⟩⟩
  · exact ⟨.inr (.inl ⟨d, s1, by unfold xsUp; rw [e]; rfl, k⟩)⟩
theorem x_seq (h : Gx (f s) (fun s1 => Gx (g s1) N R E) R E) : Gx (xsSeq f g s) N R E := by
  obtain ⟨⟨s1, e, h⟩ | ⟨d, s1, e, h⟩ | ⟨c, s1, e, h⟩⟩ := h
  · have q : xsSeq f g s = g s1 := by unfold xsSeq; rw [e]; rfl
    rw [q]; exact h
  · exact ⟨.inr (.inl ⟨d, s1, by unfold xsSeq; rw [e]; rfl, h⟩)⟩
  · exact ⟨.inr (.inr ⟨c, s1, by unfold xsSeq; rw [e]; rfl, h⟩)⟩
theorem x_if (h : Ge (t s) fun b s1 => (b = true ∧ Gx (f s1) N R E) ∨ (b = false ∧ Gx (g s1) N R E)) : Gx (xsIf t f g s) N R E := by
  obtain ⟨b, s1, e, ⟨rfl, h⟩ | ⟨rfl, h⟩⟩ := h
  · have q : xsIf t f g s = f s1 := by unfold xsIf; rw [e]; simp
    rw [q]; exact h
  · have q : xsIf t f g s = g s1 := by unfold xsIf; rw [e]; simp
    rw [q]; exact h
theorem x_raise {c : Str} (k : E c) : Gx (xsRaise c s) N R E := ⟨.inr (.inr ⟨c, s, rfl, k⟩)⟩
theorem x_drop {m : List PyData → Option (Rx PyData)} (h : Ge (ga s) fun ds s1 => Gd (m ds) fun r => (∃ d, r = .ok d ∧ N s1) ∨ ∃ c, r = .ex c ∧ E c) : Gx (xsDrop (xCall m ga) s) N R E := by
  obtain ⟨ds, s1, e, r, e2, ⟨d, rfl, k⟩ | ⟨c, rfl, k⟩⟩ := h
  · exact ⟨.inl ⟨s1, by unfold xsDrop xCall; rw [e, Option.bind_some, e2]; rfl, k⟩⟩
  · exact ⟨.inr (.inr ⟨c, s1, by unfold xsDrop xCall; rw [e, Option.bind_some, e2]; rfl, k⟩)⟩
theorem m_fnX {M : List Str} {n : Nat} {b : DSx} {ds : List PyData} {q : Rx PyData → Prop} (l : ds.length = n) (h : Gx (b (startS M ds)) (fun _ => q (.ok .none)) (fun d _ => q (.ok d)) fun c => q (.ex c)) : Gd (fnX M n b ds) q := by
  obtain ⟨⟨s1, e, k⟩ | ⟨d, s1, e, k⟩ | ⟨c, s1, e, k⟩⟩ := h
  · exact ⟨_, by unfold fnX; rw [if_pos l, e]; rfl, k⟩
  · exact ⟨_, by unfold fnX; rw [if_pos l, e]; rfl, k⟩
  · exact ⟨_, by unfold fnX; rw [if_pos l, e]; rfl, k⟩
theorem ok_gd {m : List PyData → Option (Rx PyData)} {ds : List PyData} {d : PyData} {D : PyData → Prop} (h : Gd (m ds) fun r => r = .ok d) (k : D d) : Gd (okOf m ds) D := by
  obtain ⟨r, e, rfl⟩ := h
  exact ⟨d, by unfold okOf; rw [e], k⟩
theorem e_word {q : Str} {wd : Option Str → Option Str} {m : List PyData → Option (Rx PyData)} {Q : PyData → Sl → Prop} (ok : okTab s q = true) (h : Ge (ga s) fun ds s1 => Gd (m ds) fun r => ∃ w, wd (match r with
    | .ok _ => none
    | .ex c => some c) = some w ∧ Q (.str w) s1) : Ge (dWord q wd m ga s) Q := by
  obtain ⟨ds, s1, e, r, e2, w, e3, k⟩ := h
  refine ⟨.str w, s1, ?_, k⟩
  unfold dWord
  rw [if_pos ok, e, Option.bind_some, e2, Option.bind_some]
  cases r with
  | ok d => dsimp only at e3 ⊢; rw [e3]; rfl
  | ex c => dsimp only at e3 ⊢; rw [e3]; rfl
end

def condB (d : PyData) : Bool := decide (1 ≤ cnt 6 false d) && decide (cnt 6 false d ≤ 30)
theorem condB_hc {d : PyData} (h : condB d = true) : Hc 6 d := by
  unfold condB at h
  rw [Bool.and_eq_true, decide_eq_true_eq] at h
  exact hc_cnt 6 false d (by omega)
def rxC (d : PyData) (o : PyData) : Rx PyData := if condB d = true then .ok o else .ex "NoCondition"
theorem check_ok {k : Nat} {d : PyData} (h : Fit k d) : Gd (m_check_condition [d]) fun r => r = rxC d .none := by
  unfold m_check_condition
  refine m_fnX rfl ?_
  unfold b_check_condition
  refine x_if ?_
  decreasing_trivial
  refine gd_mono (is_condition_ok h) fun r hr => ?_
  have hr : r = .bool (condB d) := hr
  subst hr
  decreasing_trivial
  cases kb : condB d with
  | true =>
    refine .inr ⟨rfl, x_up ?_⟩
    decreasing_trivial
    unfold rxC
    rw [kb]
    rfl
  | false =>
    refine .inl ⟨rfl, x_raise ?_⟩
    unfold rxC
    rw [kb]
    rfl
theorem drop_cond {d : PyData} {A : Prop} {r : Rx PyData} {E : Str → Prop} (hr : r = rxC d .none) (h1 : condB d = true → A) (h2 : condB d = false → E "NoCondition") : (∃ d, r = .ok d ∧ A) ∨ ∃ c, r = .ex c ∧ E c := by
  subst hr
  unfold rxC
  cases kb : condB d with
  | true => exact .inl ⟨_, rfl, h1 kb⟩
  | false => exact .inr ⟨_, rfl, h2 kb⟩
theorem fk_none : Fk (.dict []) (fun _ => 0) := ⟨fun n => .inl ⟨rfl, rfl⟩, fun n => ⟨by decide, by decide⟩⟩
/-- folk as it is handed in -/
inductive Fh : PyData → (Str → Int) → Prop
  | none : Fh .none (fun _ => 0)
  | dict {kvs : List (PyData × PyData)} {fo : Str → Int} (h : Fk (.dict kvs) fo) : Fh (.dict kvs) fo
theorem holds_ok {k : Nat} {d T F : PyData} {t : Str → Int → Option PyData} {fo : Str → Int} {p : Int} (fd : Fit k d) (kb : condB d = true) (tk : Tk T t) (fh : Fh F fo) : Gd (m_holds [d, T, .int p, F]) fun r => r = .ok (.bool (hv t fo 6 p d)) := by
  unfold m_holds
  refine m_fnX rfl ?_
  unfold b_holds
  refine x_seq ?_
  refine x_drop ?_
  decreasing_trivial
  refine gd_mono (check_ok fd) fun r hr => ?_
  refine drop_cond hr (fun _ => ?_) (fun e => absurd e (by rw [kb]; decide))
  refine x_up ?_
  decreasing_trivial
  cases fh with
  | none =>
    refine gd (a := .bool true) rfl ?_
    decreasing_trivial
    refine gd_mono (holds_by_ok tk fk_none 6 d (condB_hc kb) 7 (by decide) p) fun q hq => ?_
    rw [hq]
  | dict fk =>
    refine gd (a := .bool false) rfl ?_
    decreasing_trivial
    refine gd_mono (holds_by_ok tk fk 6 d (condB_hc kb) 7 (by decide) p) fun q hq => ?_
    rw [hq]
theorem holds_no {k : Nat} {d T F p : PyData} (fd : Fit k d) (kb : condB d = false) : Gd (m_holds [d, T, p, F]) fun r => r = .ex "NoCondition" := by
  unfold m_holds
  refine m_fnX rfl ?_
  unfold b_holds
  refine x_seq ?_
  refine x_drop ?_
  decreasing_trivial
  refine gd_mono (check_ok fd) fun r hr => ?_
  exact drop_cond hr (fun e => absurd e (by rw [kb]; decide)) (fun _ => rfl)
/-! called in short -/
theorem e_callK {m : List PyData → Option PyData} {n k : Nat} {pk : List PyData → List PyData → List PyData} {ga gk : DA} {s : Sl} {Q : PyData → Sl → Prop} (h : Ge (ga s) fun ds s1 => Ge (gk s1) fun zs s2 => ds.length = n ∧ zs.length = k ∧ Gd (m (pk ds zs)) fun d => Q d s2) : Ge (dCallK m n k pk ga gk s) Q := by
  obtain ⟨ds, s1, e1, zs, s2, e2, l1, l2, d, e3, q⟩ := h
  exact ⟨d, s2, by unfold dCallK; rw [e1, Option.bind_some, e2, Option.bind_some]; simp only; rw [if_pos ⟨l1, l2⟩, e3]; rfl, q⟩
theorem withD_ok {m : List PyData → Option PyData} {dd ds : List PyData} {D : PyData → Prop} (h : Gd (m (ds ++ dd)) D) : Gd (withD m dd ds) D := h
/-- who is asked, and of what folk, in each way -/
def someOf (way p : Int) : Int := if way < 3 then p else 0
def folkOf (way : Int) (fo : Str → Int) : Str → Int := if way = 0 ∨ way = 1 ∨ way = 3 then fo else fun _ => 0
theorem told_ok {k : Nat} {d T : PyData} {kvs : List (PyData × PyData)} {t : Str → Int → Option PyData} {fo : Str → Int} {p way : Int} (fd : Fit k d) (kb : condB d = true) (tk : Tk T t) (fk : Fk (.dict kvs) fo) (h0 : 0 ≤ way) (h1 : way < 5) :
    Gd (m__law_told [.int way, d, T, .int p, .dict kvs]) fun q => q = .bool (hv t (folkOf way fo) 6 (someOf way p) d) := by
  unfold m__law_told
  refine m_fnP rfl ?_
  unfold b__law_told
  have ways : way = 0 ∨ way = 1 ∨ way = 2 ∨ way = 3 ∨ way = 4 := by omega
  rcases ways with rfl | rfl | rfl | rfl | rfl
  · decreasing_trivial
    refine gd (a := .bool true) rfl ?_
    decreasing_trivial
    exact ok_gd (holds_ok fd kb tk (.dict fk)) rfl
  · decreasing_trivial
    refine gd (a := .bool false) rfl ?_
    decreasing_trivial
    refine gd (a := .bool true) rfl ?_
    decreasing_trivial
    refine e_callK ?_
    decreasing_trivial
    refine ⟨rfl, rfl, ?_⟩
    exact ok_gd (holds_ok fd kb tk (.dict fk)) rfl
  · decreasing_trivial
    refine gd (a := .bool false) rfl ?_
    decreasing_trivial
    refine gd (a := .bool false) rfl ?_
    decreasing_trivial
    refine gd (a := .bool true) rfl ?_
    decreasing_trivial
    refine e_callK ?_
    decreasing_trivial
    refine ⟨rfl, rfl, ?_⟩
    exact ok_gd (holds_ok fd kb tk .none) rfl
  · decreasing_trivial
    refine gd (a := .bool false) rfl ?_
    decreasing_trivial
    refine gd (a := .bool false) rfl ?_
    decreasing_trivial
    refine gd (a := .bool false) rfl ?_
    decreasing_trivial
    refine gd (a := .bool true) rfl ?_
    decreasing_trivial
    refine e_callK ?_
    decreasing_trivial
    refine ⟨rfl, rfl, ?_⟩
    exact ok_gd (holds_ok fd kb tk (.dict fk)) rfl
  · decreasing_trivial
    refine gd (a := .bool false) rfl ?_
    decreasing_trivial
    refine gd (a := .bool false) rfl ?_
    decreasing_trivial
    refine gd (a := .bool false) rfl ?_
    decreasing_trivial
    refine gd (a := .bool false) rfl ?_
    decreasing_trivial
    refine withD_ok ?_
    exact ok_gd (holds_ok fd kb tk .none) rfl
end K07

/-! answers and folk as dicts; their texts -/
namespace K07
open PySem PySem.Spec PyProof.Rows L2 Dl
/-! folk: names and numbers -/
def FsP (p : PyData × PyData) : Prop := ∃ (x : Str) (i : Int), p = (.str x, .int i) ∧ nameB (.str x) = true ∧ 0 ≤ i ∧ i ≤ 10
theorem putF_all {kvs : List (PyData × PyData)} {x : Str} {i : Int} (h : ∀ p ∈ kvs, FsP p) (hx : nameB (.str x) = true) (h0 : 0 ≤ i) (h1 : i ≤ 10) : (∀ p ∈ Dl.putF kvs (.inr x) (.int i), FsP p) ∧ (Dl.putF kvs (.inr x) (.int i)).length ≤ kvs.length + 1 := by
  unfold Dl.putF
  split
  · refine ⟨fun p hp => ?_, by rw [List.length_map]; omega⟩
    obtain ⟨q, hq, rfl⟩ := List.mem_map.mp hp
    obtain ⟨y, j, rfl, a, b, c⟩ := h q hq
    split
    · exact ⟨y, i, rfl, a, h0, h1⟩
    · exact ⟨y, j, rfl, a, b, c⟩
  · refine ⟨fun p hp => ?_, by rw [List.length_append]; exact Nat.le_refl _⟩
    rcases List.mem_append.mp hp with q | q
    · exact h p q
    · rw [List.mem_singleton.mp q]
      exact ⟨x, i, rfl, hx, h0, h1⟩
def foOf (kvs : List (PyData × PyData)) (n : Str) : Int := match getF kvs (.inr n) with
  | some (.int i) => i
  | _ => 0
theorem getF_mem {kvs : List (PyData × PyData)} {k : Key} {d : PyData} (h : getF kvs k = some d) : ∃ p ∈ kvs, p.2 = d := by
  unfold getF at h
  simp only [Option.map_eq_some_iff] at h
  obtain ⟨p, hp, rfl⟩ := h
  exact ⟨p, List.mem_of_find?_eq_some hp, rfl⟩
theorem real_fs {kvs : List (PyData × PyData)} (h : ∀ p ∈ kvs, FsP p) : realD kvs = true ∧ (∀ n, lookD (.dict kvs) (.str n) = some (getF kvs (.inr n))) ∧ unM (.dict kvs) = .dict kvs ∧ realM (.dict kvs) = realKvs kvs := by
  cases kvs with
  | nil => exact ⟨rfl, fun _ => rfl, rfl, by simp [realM, realAll]⟩
  | cons p r =>
    obtain ⟨x, i, rfl, _⟩ := h p List.mem_cons_self
    exact ⟨rfl, fun _ => rfl, rfl, by simp [realM, realAll]⟩
theorem fk_of {kvs : List (PyData × PyData)} (h : ∀ p ∈ kvs, FsP p) : Fk (.dict kvs) (foOf kvs) := by
  refine ⟨fun n => ?_, fun n => ?_⟩
  · rw [(real_fs h).2.1]
    cases e : getF kvs (.inr n) with
    | none => exact .inl ⟨rfl, by unfold foOf; rw [e]⟩
    | some d =>
      obtain ⟨p, hp, rfl⟩ := getF_mem e
      obtain ⟨x, i, rfl, _⟩ := h p hp
      exact .inr (by unfold foOf; rw [e])
  · unfold foOf
    cases e : getF kvs (.inr n) with
    | none => exact ⟨Int.le_refl 0, by decide⟩
    | some d =>
      obtain ⟨p, hp, rfl⟩ := getF_mem e
      obtain ⟨x, i, rfl, _, a, b⟩ := h p hp
      exact ⟨a, by show i ≤ 100; omega⟩
theorem merge_all : ∀ {ps : List (Key × PyData)} {kvs : List (PyData × PyData)}, (∀ p ∈ ps, ∃ (x : Str) (i : Int), p = (.inr x, .int i) ∧ nameB (.str x) = true ∧ 0 ≤ i ∧ i ≤ 10) → (∀ p ∈ kvs, FsP p) → (∀ p ∈ mergeF kvs ps, FsP p) ∧ (mergeF kvs ps).length ≤ kvs.length + ps.length
  | [], kvs, _, h => ⟨h, Nat.le_refl _⟩
  | p :: r, kvs, hp, h => by
    obtain ⟨x, i, rfl, a, b, c⟩ := hp p List.mem_cons_self
    obtain ⟨h1, h2⟩ := putF_all h a b c
    obtain ⟨h3, h4⟩ := merge_all (ps := r) (kvs := Dl.putF kvs (.inr x) (.int i)) (fun q hq => hp q (List.mem_cons_of_mem _ hq)) h1
    exact ⟨h3, by rw [List.length_cons]; exact Nat.le_trans h4 (by omega)⟩
/-! answers: by name and person -/
inductive Va : PyData → Prop
  | str {x : Str} (h : nameB (.str x) = true) : Va (.str x)
  | tup {xs : List Str} (l : xs.length ≤ 4) (h : ∀ x ∈ xs, nameB (.str x) = true) : Va (.tuple (xs.map .str))
  | int {i : Int} (h0 : 0 ≤ i) (h1 : i ≤ 1000000) : Va (.int i)
theorem Va.av {d : PyData} (h : Va d) : Av d := by
  cases h with
  | str h => exact .str _
  | tup l h => exact .tup _
  | int h0 h1 => exact .int _
def TsP (p : List Key × PyData) : Prop := ∃ (x : Str) (i : Int), p.1 = [.inr x, .inl i] ∧ nameB (.str x) = true ∧ (0 ≤ i ∧ i ≤ 10) ∧ Va p.2
theorem putL_all {ds : List (List Key × PyData)} {x : Str} {i : Int} {d : PyData} (h : ∀ p ∈ ds, TsP p) (hx : nameB (.str x) = true) (hi : 0 ≤ i ∧ i ≤ 10) (hd : Va d) : (∀ p ∈ putL ds [.inr x, .inl i] d, TsP p) ∧ (putL ds [.inr x, .inl i] d).length ≤ ds.length + 1 := by
  unfold putL
  split
  · refine ⟨fun p hp => ?_, by rw [List.length_map]; omega⟩
    obtain ⟨q, hq, rfl⟩ := List.mem_map.mp hp
    obtain ⟨y, j, e, a, b, c⟩ := h q hq
    split
    · exact ⟨y, j, e, a, b, hd⟩
    · exact ⟨y, j, e, a, b, c⟩
  · refine ⟨fun p hp => ?_, by rw [List.length_append]; exact Nat.le_refl _⟩
    rcases List.mem_append.mp hp with q | q
    · exact h p q
    · rw [List.mem_singleton.mp q]
      exact ⟨x, i, rfl, hx, hi, hd⟩
def takenD (ds : List (List Key × PyData)) : PyData := .dict ((.none, .none) :: kvD ds)
def tOf (ds : List (List Key × PyData)) (n : Str) (p : Int) : Option PyData := getL ds [.inr n, .inl p]
theorem getL_mem {ds : List (List Key × PyData)} {k : List Key} {d : PyData} (h : getL ds k = some d) : ∃ p ∈ ds, p.2 = d := by
  unfold getL at h
  simp only [Option.map_eq_some_iff] at h
  obtain ⟨p, hp, rfl⟩ := h
  exact ⟨p, List.mem_of_find?_eq_some hp, rfl⟩
theorem tk_av {ds : List (List Key × PyData)} (h : ∀ p ∈ ds, Av p.2) : Tk (takenD ds) (tOf ds) := by
  refine ⟨fun n p => lookD_t rfl, fun n p a e => ?_⟩
  obtain ⟨q, hq, rfl⟩ := getL_mem e
  exact h q hq
theorem tk_of {ds : List (List Key × PyData)} (h : ∀ p ∈ ds, TsP p) : Tk (takenD ds) (tOf ds) := tk_av fun p hp => by
  obtain ⟨_, _, _, _, _, v⟩ := h p hp
  exact v.av
/-! texts -/
structure Sh (d : PyData) (w : Nat) : Prop where
  s : d.showable = true
  r : realAll d = true
  dp : d.depth ≤ 20
  l : d.shown.length ≤ w
theorem sh_fit {k : Nat} {d : PyData} (h : Fit k d) (hk : k ≤ 18) : Sh d (wt d) := ⟨(fit_shows h).1, (fit_shows h).2.1, by have := (fit_shows h).2.2; omega, fit_wt h⟩
theorem Sh.mono {d : PyData} {w v : Nat} (h : Sh d w) (l : w ≤ v) : Sh d v := ⟨h.s, h.r, h.dp, Nat.le_trans h.l l⟩
theorem sh_name {x : Str} (h : nameB (.str x) = true) : Sh (.str x) 100 := by
  have p := nameB_parts h
  exact (sh_fit (k := 0) (fit_str 0 ⟨by omega, p.2.2⟩) (by decide)).mono (by rw [wt]; omega)
theorem sh_int {i : Int} (h0 : 0 ≤ i) (h1 : i ≤ 1000000) : Sh (.int i) 300 := by
  have : (1000000 : Nat) < 2 ^ 200 := by decide
  exact (sh_fit (k := 0) (fit_int 0 (by omega)) (by decide)).mono (by rw [wt]; omega)
theorem Va.sh {d : PyData} (h : Va d) : Sh d 1000 := by
  cases h with
  | str h => exact (sh_name h).mono (by decide)
  | int h0 h1 => exact (sh_int h0 h1).mono (by decide)
  | tup l h =>
    rename_i xs
    have f : Fit 1 (.tuple (xs.map PyData.str)) := fit_tup (by rw [List.length_map]; omega) fun d hd => by
      obtain ⟨x, hx, rfl⟩ := List.mem_map.mp hd
      have p := nameB_parts (h x hx)
      exact fit_str 0 ⟨by omega, p.2.2⟩
    refine (sh_fit f (by decide)).mono ?_
    have ws : ∀ ys : List Str, (∀ y ∈ ys, nameB (.str y) = true) → wts (ys.map PyData.str) ≤ 100 * ys.length := by
      intro ys
      induction ys with
      | nil => intro _; exact Nat.le_refl 0
      | cons y r ih =>
        intro hy
        have a := ih fun z hz => hy z (List.mem_cons_of_mem _ hz)
        have b := (nameB_parts (hy y List.mem_cons_self)).2.1
        rw [List.map_cons, wts, wt, List.length_cons]
        omega
    have := ws xs h
    rw [wt]
    omega
theorem sh_key {ks : List Key} {x : Str} {i : Int} (e : ks = [.inr x, .inl i]) (hx : nameB (.str x) = true) (hi : 0 ≤ i ∧ i ≤ 10) : Sh (.tuple (ks.map kD)) 1000 := by
  subst e
  have p := nameB_parts hx
  have big : (1000000 : Nat) < 2 ^ 200 := by decide
  have f : Fit 1 (.tuple [.str x, .int i]) := fit_tup (Nat.le_of_ble_eq_true rfl) fun d hd => by
    simp only [List.mem_cons, List.not_mem_nil, or_false] at hd
    rcases hd with rfl | rfl
    · exact fit_str 0 ⟨by omega, p.2.2⟩
    · exact fit_int 0 (by omega)
  exact (sh_fit f (by decide)).mono (by simp only [wt, wts]; omega)
theorem sh_kvs : ∀ {kvs : List (PyData × PyData)}, (∀ p ∈ kvs, Sh p.1 1000 ∧ Sh p.2 1000) → PyData.showableKv kvs = true ∧ PyData.depthKv kvs ≤ 20 ∧ ((PyData.shownKv kvs).map (·.length)).sum ≤ 2010 * kvs.length ∧ (PyData.shownKv kvs).length = kvs.length
  | [], _ => ⟨by rw [PyData.showableKv], by rw [PyData.depthKv]; decide, by rw [PyData.shownKv]; exact Nat.le_refl 0, by rw [PyData.shownKv]; rfl⟩
  | (a, b) :: r, h => by
    obtain ⟨h1, h2, h3, h4⟩ := sh_kvs (kvs := r) fun p hp => h p (List.mem_cons_of_mem _ hp)
    obtain ⟨ha, hb⟩ := h (a, b) List.mem_cons_self
    refine ⟨by rw [PyData.showableKv, ha.s, hb.s, h1]; rfl, ?_, ?_, ?_⟩
    · rw [PyData.depthKv]
      have := ha.dp; have := hb.dp
      dsimp only at *
      omega
    · rw [PyData.shownKv, List.map_cons, List.sum_cons, len_cat, len_cat, List.length_cons]
      have := ha.l; have := hb.l
      have e : ((": " : String) : Str).length = 2 := rfl
      dsimp only at *
      omega
    · rw [PyData.shownKv, List.length_cons, List.length_cons, h4]
theorem sh_dict {kvs : List (PyData × PyData)} (h : ∀ p ∈ kvs, Sh p.1 1000 ∧ Sh p.2 1000) (l : kvs.length ≤ 20) : (PyData.dict kvs).showable = true ∧ (PyData.dict kvs).depth ≤ 21 ∧ (PyData.dict kvs).shown.length ≤ 50000 := by
  obtain ⟨h1, h2, h3, h4⟩ := sh_kvs h
  refine ⟨by rw [PyData.showable]; exact h1, by rw [PyData.depth]; omega, ?_⟩
  have e : (PyData.dict kvs).shown = dictText (PyData.shownKv kvs) := by simp only [PyData.shown]
  rw [e]
  have := dictText_len_le (PyData.shownKv kvs)
  rw [h4] at this
  omega
theorem real_kvs : ∀ {kvs : List (PyData × PyData)}, (∀ p ∈ kvs, FsP p) → realKvs kvs = true
  | [], _ => by rw [realKvs]
  | p :: r, h => by
    obtain ⟨x, i, rfl, _⟩ := h p List.mem_cons_self
    have := real_kvs (kvs := r) fun q hq => h q (List.mem_cons_of_mem _ hq)
    simp [realKvs, realAll, this]
theorem kvD_mem {ds : List (List Key × PyData)} {p : PyData × PyData} (h : p ∈ kvD ds) : ∃ q ∈ ds, p = (.tuple (q.1.map kD), q.2) := by
  unfold kvD at h
  obtain ⟨q, hq, rfl⟩ := List.mem_map.mp h
  exact ⟨q, hq, rfl⟩
theorem kvD_vals (ds : List (List Key × PyData)) : (kvD ds).map (·.2) = ds.map (·.2) := by unfold kvD; rw [List.map_map]; rfl
theorem reprT_ok {k : Nat} {cs : List PyData} {ds : List (List Key × PyData)} {kvs : List (PyData × PyData)} (fc : Fit k (.tuple cs)) (hk : k ≤ 18) (wc : wt (.tuple cs) ≤ 1000000) (hT : ∀ p ∈ ds, TsP p) (lT : ds.length ≤ 10) (hF : ∀ p ∈ kvs, FsP p) (lF : kvs.length ≤ 10) :
    ∃ S, gReprT [.tuple [.tuple cs, takenD ds, .dict kvs]] = some (.str S) := by
  have c := sh_fit fc hk
  have t := sh_dict (kvs := kvD ds) (fun p hp => by
    obtain ⟨q, hq, rfl⟩ := kvD_mem hp
    obtain ⟨x, i, e, a, b, v⟩ := hT q hq
    exact ⟨sh_key e a b, v.sh⟩) (by unfold kvD; rw [List.length_map]; omega)
  have f := sh_dict (kvs := kvs) (fun p hp => by
    obtain ⟨x, i, rfl, a, b, c⟩ := hF p hp
    exact ⟨(sh_name a).mono (by decide), (sh_int b (by omega)).mono (by decide)⟩) (by omega)
  obtain ⟨_, _, uF, rF⟩ := real_fs hF
  have e : [PyData.tuple cs, takenD ds, PyData.dict kvs].map unM = [.tuple cs, .dict (kvD ds), .dict kvs] := by
    show [PyData.tuple cs, PyData.dict (kvD ds), unM (.dict kvs)] = _
    rw [uF]
  have r : [PyData.tuple cs, takenD ds, PyData.dict kvs].all realM = true := by
    have r1 : realM (.tuple cs) = true := c.r
    have r2 : realM (takenD ds) = true := by
      show ((unT (kvD ds)).isSome && realAlls ((kvD ds).map (·.2))) = true
      rw [unT_kvD, kvD_vals]
      refine Bool.and_eq_true_iff.mpr ⟨rfl, reals_of fun d hd => ?_⟩
      obtain ⟨q, hq, rfl⟩ := List.mem_map.mp hd
      obtain ⟨_, _, _, _, _, v⟩ := hT q hq
      exact v.sh.r
    have r3 : realM (.dict kvs) = true := by rw [rF]; exact real_kvs hF
    rw [List.all_cons, List.all_cons, List.all_cons, List.all_nil, r1, r2, r3]
    rfl
  have s1 : (PyData.tuple [.tuple cs, .dict (kvD ds), .dict kvs]).showable = true := by
    rw [PyData.showable, PyData.showableAll, PyData.showableAll, PyData.showableAll, PyData.showableAll, c.s, t.1, f.1]
    rfl
  have s2 : (PyData.tuple [.tuple cs, .dict (kvD ds), .dict kvs]).depth ≤ 60 := by
    have a := c.dp; have b := t.2.1; have d := f.2.1
    rw [PyData.depth, PyData.depthAll, PyData.depthAll, PyData.depthAll, PyData.depthAll]
    omega
  have s3 : (PyData.tuple [.tuple cs, .dict (kvD ds), .dict kvs]).shown.length ≤ sizeLine := by
    have a := c.l; have b := t.2.2; have d := f.2.2
    have e2 : (PyData.tuple [.tuple cs, .dict (kvD ds), .dict kvs]).shown = tupleText (PyData.shownAll [.tuple cs, .dict (kvD ds), .dict kvs]) := by simp only [PyData.shown]
    rw [e2]
    have q := tup_few (PyData.shownAll [.tuple cs, .dict (kvD ds), .dict kvs])
    rw [PyData.shownAll, PyData.shownAll, PyData.shownAll, PyData.shownAll] at q ⊢
    simp only [piled_cons, piled_nil] at q
    exact Nat.le_trans (show _ ≤ 2000000 by omega) (by decide)
  have h : (((PyData.tuple ([PyData.tuple cs, takenD ds, PyData.dict kvs].map unM)).showable && [PyData.tuple cs, takenD ds, PyData.dict kvs].all realM) && (decide ((PyData.tuple ([PyData.tuple cs, takenD ds, PyData.dict kvs].map unM)).shown.length ≤ sizeLine) && decide ((PyData.tuple ([PyData.tuple cs, takenD ds, PyData.dict kvs].map unM)).depth ≤ 60))) = true := by
    rw [e, r, s1]
    simp only [Bool.true_and, Bool.and_eq_true, decide_eq_true_eq]
    exact ⟨s3, s2⟩
  exact ⟨_, if_pos h⟩
end K07

/-! answers and folk as the law draws them -/
namespace K07
open PySem PySem.Spec PyProof.Rows L2 Dl
local macro_rules | `(tactic| decreasing_trivial_pre_omega) => `(tactic| (first | with_reducible refine s_seq ?_ | with_reducible refine s_if ?_ | with_reducible refine s_set ?_ | with_reducible refine s_setIx ?_ | with_reducible refine s_ret ?_ | with_reducible refine s_nil ?_ | with_reducible refine s_own ?_ | with_reducible refine s_par ?_ | with_reducible refine t_tst ?_ | with_reducible refine t_and ?_ | with_reducible refine t_or ?_ | with_reducible refine t_not ?_ | with_reducible refine t_yes ?_ | with_reducible refine e_op ?_ | with_reducible refine e_un ?_ | with_reducible refine e_chain ?_ | with_reducible refine e_b ?_ | with_reducible refine e_c ?_ | with_reducible refine e_l ?_ | with_reducible refine e_tup ?_ | with_reducible refine e_call ?_ | with_reducible refine e_and ?_ | with_reducible refine e_or ?_ | with_reducible refine e_not ?_ | with_reducible refine e_if ?_ | with_reducible refine e_sl ?_ | with_reducible refine o_n ?_ | with_reducible refine o_s ?_ | with_reducible refine a_nil ?_ | with_reducible refine a_cons ?_ | with_reducible refine f_lst ?_ | with_reducible refine f_call ?_ | with_reducible refine f_itA ?_ | with_reducible refine f_r1 ?_ | with_reducible refine r_seq ?_ | with_reducible refine n_add ?_ | with_reducible refine n_sub ?_ | with_reducible refine n_gt ?_ | with_reducible refine n_ge ?_ | with_reducible refine n_lt ?_ | with_reducible refine n_le ?_ | with_reducible refine e_var (by with_unfolding_all rfl) ?_ | with_reducible refine e_ixc (by with_unfolding_all rfl) ?_ | with_reducible refine e_callM (by with_unfolding_all rfl) ?_ | with_reducible refine s_frz (by with_unfolding_all rfl) ?_ | with_reducible refine s_app (by with_unfolding_all rfl) ?_ | with_reducible refine few_and (by first | decide | (simp only [List.length_cons, List.length_nil, Nat.reduceAdd, Nat.reduceLeDiff])) ?_ | refine Or.inl ⟨by first | with_reducible rfl | with_reducible exact Bool.not_false, ?_⟩ | refine Or.inr ⟨by first | with_reducible rfl | with_reducible exact Bool.not_true, ?_⟩ | refine Exists.intro _ (Exists.intro _ ⟨rfl, rfl, gd rfl ?_⟩) | refine Exists.intro _ ⟨rfl, ?_⟩))
local macro_rules | `(tactic| decreasing_trivial) => `(tactic| repeat decreasing_trivial_pre_omega)
theorem pairs_all : ∀ {ds : List PyData}, (∀ d ∈ ds, ∃ (x : Str) (i : Int), d = .tuple [.str x, .int i] ∧ nameB (.str x) = true ∧ 0 ≤ i ∧ i ≤ 10) → ∃ ps, pairsOf ds = some ps ∧ ps.length = ds.length ∧ ∀ p ∈ ps, ∃ (x : Str) (i : Int), p = (.inr x, .int i) ∧ nameB (.str x) = true ∧ 0 ≤ i ∧ i ≤ 10
  | [], _ => ⟨[], rfl, rfl, fun p hp => by cases hp⟩
  | d :: r, h => by
    obtain ⟨x, i, rfl, a, b, c⟩ := h d List.mem_cons_self
    obtain ⟨ps, e, l, q⟩ := pairs_all (ds := r) fun e he => h e (List.mem_cons_of_mem _ he)
    refine ⟨(.inr x, .int i) :: ps, ?_, by rw [List.length_cons, List.length_cons, l], fun p hp => ?_⟩
    · show (kOf (.str x)).bind (fun kk => (pairsOf r).map ((kk, PyData.int i) :: ·)) = _
      rw [e]
      rfl
    · rcases List.mem_cons.mp hp with rfl | z
      · exact ⟨x, i, rfl, a, b, c⟩
      · exact q p z
theorem folk_ok {zs : List Str} (l4 : zs.length = 4) (nm : ∀ z ∈ zs, nameB (.str z) = true) {n : Nat} {pd : List PyData} (h : Pot n pd) (hn : n < 900000) :
    Gd (m__law_folk pd [.list (zs.map .str)]) fun q => ∃ kvs, q.1 = .dict kvs ∧ ((∀ p ∈ kvs, FsP p) ∧ kvs.length ≤ 4) ∧ Pot (n + 10) q.2 := by
  unfold m__law_folk
  refine m_fnM rfl ?_
  unfold b__law_folk
  decreasing_trivial
  refine f_lc (I := fun r m s => ∃ (p : List PyData) (v : SV), s = [.pot p, .dat (.list (zs.map .str)), v] ∧ Pot (n + 8 - 2 * r.length) p ∧ (m.length + r.length ≤ 4 ∧ r.length ≤ 4) ∧ (∀ d ∈ r, ∃ z, d = .str z ∧ nameB (.str z) = true) ∧ ∀ d ∈ m, ∃ (x : Str) (i : Int), d = .tuple [.str x, .int i] ∧ nameB (.str x) = true ∧ 0 ≤ i ∧ i ≤ 10) ?_ (fun d r m s hI => ?_) (fun m s hI => ?_)
  · decreasing_trivial
    have lm : (zs.map PyData.str).length = 4 := by rw [List.length_map, l4]
    refine .inl ⟨_, .inl rfl, rfl, by rw [lm]; decide, pd, _, rfl, ?_, ⟨by rw [lm]; decide, by rw [lm]; decide⟩, fun d hd => ?_, fun d hd => by cases hd⟩
    · rw [lm]; exact h.mono (by omega)
    · obtain ⟨z, hz, rfl⟩ := List.mem_map.mp hd
      exact ⟨z, rfl, nm z hz⟩
  · obtain ⟨p, v, rfl, hp, ll, hr, hm⟩ := hI
    rw [List.length_cons] at hp ll
    obtain ⟨z, rfl, nz⟩ := hr d List.mem_cons_self
    decreasing_trivial
    refine pot_at hp (by omega) (by decide) (by decide) fun r1 p1 a1 b1 hp1 => ?_
    decreasing_trivial
    refine ⟨rfl, ?_⟩
    by_cases c : 0 < r1
    · refine .inl ⟨decide_eq_true c, ?_⟩
      decreasing_trivial
      refine pot_at hp1 (by omega) (by decide) (by decide) fun r2 p2 a2 b2 hp2 => ?_
      decreasing_trivial
      refine ⟨rfl, p2, _, rfl, hp2.mono (by omega), ⟨by rw [List.length_append, List.length_singleton]; omega, by omega⟩, fun d hd => hr d (List.mem_cons_of_mem _ hd), fun d hd => ?_⟩
      rcases List.mem_append.mp hd with q | q
      · exact hm d q
      · rw [List.mem_singleton.mp q]
        exact ⟨z, r2, rfl, nz, a2, by omega⟩
    · refine .inr ⟨decide_eq_false c, p1, _, rfl, hp1.mono (by omega), ⟨by omega, by omega⟩, fun d hd => hr d (List.mem_cons_of_mem _ hd), hm⟩
  · obtain ⟨p, v, rfl, hp, ll, hr, hm⟩ := hI
    decreasing_trivial
    obtain ⟨ps, e, l, q⟩ := pairs_all hm
    obtain ⟨m1, m2⟩ := merge_all (kvs := []) q (fun p hp => by cases hp)
    refine gd (a := .dict (mergeF [] ps)) (by show (pairsOf m).map _ = _; rw [e]; rfl) ?_
    decreasing_trivial
    rw [List.length_nil] at hp ll m2
    exact ⟨⟨m1, by omega⟩, hp.mono (by omega)⟩
/-! answers -/
def Wn (v w : SV) : Prop := (v = .no ∧ w = .no) ∨ ∃ a b, v = .dat a ∧ w = .dat b
def TS (p : List PyData) (zs : List Str) (ds : List (List Key × PyData)) (v3 v4 v5 v6 v7 v8 : SV) : Sl := [.pot p, .dat (.list (zs.map .str)), .dic (.kT ds), v3, v4, v5, v6, v7, v8]
theorem set7 {p p1 : List PyData} {zs : List Str} {ds : List (List Key × PyData)} {d3 d4 d5 d : PyData} {v6 v7 v8 : SV} (w : Wn v6 v8) : setC ((TS p zs ds (.dat d3) (.dat d4) (.dat d5) v6 v7 v8).set 7 (.dat d)) 0 p1 = TS p1 zs ds (.dat d3) (.dat d4) (.dat d5) v6 (.dat d) v8 := by
  rcases w with ⟨rfl, rfl⟩ | ⟨a, b, rfl, rfl⟩ <;> rfl
theorem some_ok {zs : List Str} (l4 : zs.length = 4) (nm : ∀ z ∈ zs, nameB (.str z) = true) {n : Nat} {p0 : List PyData} (h : Pot n p0) (hn : n < 900000) {ds : List (List Key × PyData)} {d3 d4 d5 : PyData} {v6 v8 : SV} (w : Wn v6 v8) {Q : PyData → Sl → Prop}
    (k : ∀ (xs : List Str) (p : List PyData), xs.length ≤ 4 → (∀ x ∈ xs, nameB (.str x) = true) → Pot (n + 4) p → Q (.list (xs.map .str)) (TS p zs ds (.dat d3) (.dat d4) (.dat d5) v6 .no v8)) :
    Ge (dL (fLc (itA (dVar 1)) 7 (dTst (dOp gEq (dCallM m__law_take 0 (aCons (dC (.int 2)) aNil)) (dC (.int 0)))) (dVar 7)) (TS p0 zs ds (.dat d3) (.dat d4) (.dat d5) v6 .no v8)) Q := by
  refine e_l ?_
  refine f_lc (I := fun r m s => ∃ (p : List PyData) (v : SV) (xs : List Str), s = TS p zs ds (.dat d3) (.dat d4) (.dat d5) v6 v v8 ∧ Pot (n + 4 - r.length) p ∧ (xs.length + r.length ≤ 4 ∧ r.length ≤ 4) ∧ (∀ d ∈ r, ∃ z, d = .str z ∧ nameB (.str z) = true) ∧ m = xs.map .str ∧ ∀ x ∈ xs, nameB (.str x) = true) ?_ (fun d r m s hI => ?_) (fun m s hI => ?_)
  · decreasing_trivial
    have lm : (zs.map PyData.str).length = 4 := by rw [List.length_map, l4]
    refine .inl ⟨_, .inl rfl, rfl, by rw [lm]; decide, p0, _, [], rfl, ?_, ⟨by rw [lm]; decide, by rw [lm]; decide⟩, fun d hd => ?_, rfl, fun d hd => by cases hd⟩
    · rw [lm]; exact h.mono (by omega)
    · obtain ⟨z, hz, rfl⟩ := List.mem_map.mp hd
      exact ⟨z, rfl, nm z hz⟩
  · obtain ⟨p, v, xs, rfl, hp, ll, hr, rfl, hm⟩ := hI
    rw [List.length_cons] at hp ll
    obtain ⟨z, rfl, nz⟩ := hr d List.mem_cons_self
    decreasing_trivial
    refine pot_at hp (by omega) (by decide) (by decide) fun r1 p1 a1 b1 hp1 => ?_
    rw [set7 w]
    decreasing_trivial
    refine gd (eq_int _ _) ?_
    decreasing_trivial
    refine ⟨rfl, ?_⟩
    by_cases c : r1 = 0
    · subst c
      refine .inl ⟨rfl, ?_⟩
      refine e_var (by with_unfolding_all rfl) ?_
      refine ⟨rfl, p1, .dat (.str z), xs ++ [z], rfl, hp1.mono (by omega), ⟨by rw [List.length_append, List.length_singleton]; omega, by omega⟩, fun d hd => hr d (List.mem_cons_of_mem _ hd), (set_one xs z).symm, fun x hx => ?_⟩
      rcases List.mem_append.mp hx with q | q
      · exact hm x q
      · rw [List.mem_singleton.mp q]; exact nz
    · refine .inr ⟨by simp [c], p1, .dat (.str z), xs, rfl, hp1.mono (by omega), ⟨by omega, by omega⟩, fun d hd => hr d (List.mem_cons_of_mem _ hd), rfl, hm⟩
  · obtain ⟨p, v, xs, rfl, hp, ll, hr, rfl, hm⟩ := hI
    rw [List.length_nil] at hp ll
    exact k xs p (by omega) hm (hp.mono (by omega))
/-- the first two names of a turn's -/
def headT : DS := (sSeq (sSet 4 (dOp gIx (dL (fLst (aCons (dC (.int 0)) (aCons (dC (.int 0)) (aCons (dOp gAdd (dC (.int 1)) (dCallM m__law_take 0 (aCons (dC (.int 4)) aNil))) aNil))))) (dCallM m__law_take 0 (aCons (dC (.int 3)) aNil))))
  (sSet 5 (dCallM m__law_take 0 (aCons (dC (.int 4)) aNil))))
theorem setA {p p1 : List PyData} {zs : List Str} {ds : List (List Key × PyData)} {d3 : PyData} {v4 v5 v6 v8 : SV} (w : Wn v6 v8) (w' : Wn v4 v5) : setC (TS p zs ds (.dat d3) v4 v5 v6 .no v8) 0 p1 = TS p1 zs ds (.dat d3) v4 v5 v6 .no v8 := by
  rcases w with ⟨rfl, rfl⟩ | ⟨a, b, rfl, rfl⟩ <;> rcases w' with ⟨rfl, rfl⟩ | ⟨a, b, rfl, rfl⟩ <;> rfl
theorem setB {p p1 : List PyData} {zs : List Str} {ds : List (List Key × PyData)} {d3 d4 : PyData} {v4 v5 v6 v8 : SV} (w : Wn v6 v8) (w' : Wn v4 v5) : setC ((TS p zs ds (.dat d3) v4 v5 v6 .no v8).set 4 (.dat d4)) 0 p1 = TS p1 zs ds (.dat d3) (.dat d4) v5 v6 .no v8 := by
  rcases w with ⟨rfl, rfl⟩ | ⟨a, b, rfl, rfl⟩ <;> rcases w' with ⟨rfl, rfl⟩ | ⟨a, b, rfl, rfl⟩ <;> rfl
theorem head_ok {zs : List Str} {n : Nat} {p0 : List PyData} (h : Pot n p0) (hn : n < 900000) {ds : List (List Key × PyData)} {d3 : PyData} {v4 v5 v6 v8 : SV} (w : Wn v6 v8) (w' : Wn v4 v5) {N : Sl → Prop} {R : PyData → Sl → Prop}
    (k : ∀ (i j : Int) (p : List PyData), (0 ≤ i ∧ i ≤ 10) → (0 ≤ j ∧ j < 4) → Pot (n + 3) p → N (TS p zs ds (.dat d3) (.dat (.int i)) (.dat (.int j)) v6 .no v8)) :
    Gs (headT (TS p0 zs ds (.dat d3) v4 v5 v6 .no v8)) N R := by
  unfold headT
  decreasing_trivial
  refine pot_at h (by omega) (by decide) (by decide) fun r1 p1 a1 b1 hp1 => ?_
  rw [setA w w']
  decreasing_trivial
  refine pot_at hp1 (by omega) (by decide) (by decide) fun r2 p2 a2 b2 hp2 => ?_
  rw [setA w w']
  decreasing_trivial
  refine ix_list _ a2 (by exact b2) fun d hd => ?_
  have bi : ∃ i : Int, d = .int i ∧ 0 ≤ i ∧ i ≤ 10 := by
    simp only [List.mem_cons, List.not_mem_nil, or_false] at hd
    rcases hd with rfl | rfl | rfl
    · exact ⟨_, rfl, by decide, by decide⟩
    · exact ⟨_, rfl, by decide, by decide⟩
    · exact ⟨_, rfl, by omega, by omega⟩
  obtain ⟨i, rfl, i0, i1⟩ := bi
  decreasing_trivial
  refine pot_at hp2 (by omega) (by decide) (by decide) fun r3 p3 a3 b3 hp3 => ?_
  rw [setB w w']
  exact k i r3 p3 ⟨i0, i1⟩ ⟨a3, b3⟩ (hp3.mono (by omega))
end K07

/-! answers as the law draws them, whole -/
namespace K07
open PySem PySem.Spec PyProof.Rows L2 Dl
local macro_rules | `(tactic| decreasing_trivial_pre_omega) => `(tactic| (first | with_reducible refine s_seq ?_ | with_reducible refine s_if ?_ | with_reducible refine s_set ?_ | with_reducible refine s_setIx ?_ | with_reducible refine s_ret ?_ | with_reducible refine s_nil ?_ | with_reducible refine s_own ?_ | with_reducible refine s_par ?_ | with_reducible refine t_tst ?_ | with_reducible refine t_and ?_ | with_reducible refine t_or ?_ | with_reducible refine t_not ?_ | with_reducible refine t_yes ?_ | with_reducible refine e_op ?_ | with_reducible refine e_un ?_ | with_reducible refine e_chain ?_ | with_reducible refine e_b ?_ | with_reducible refine e_c ?_ | with_reducible refine e_l ?_ | with_reducible refine e_tup ?_ | with_reducible refine e_call ?_ | with_reducible refine e_and ?_ | with_reducible refine e_or ?_ | with_reducible refine e_not ?_ | with_reducible refine e_if ?_ | with_reducible refine e_sl ?_ | with_reducible refine o_n ?_ | with_reducible refine o_s ?_ | with_reducible refine a_nil ?_ | with_reducible refine a_cons ?_ | with_reducible refine f_lst ?_ | with_reducible refine f_call ?_ | with_reducible refine f_itA ?_ | with_reducible refine f_r1 ?_ | with_reducible refine r_seq ?_ | with_reducible refine n_add ?_ | with_reducible refine n_sub ?_ | with_reducible refine n_gt ?_ | with_reducible refine n_ge ?_ | with_reducible refine n_lt ?_ | with_reducible refine n_le ?_ | with_reducible refine e_var (by with_unfolding_all rfl) ?_ | with_reducible refine e_ixc (by with_unfolding_all rfl) ?_ | with_reducible refine e_callM (by with_unfolding_all rfl) ?_ | with_reducible refine s_frz (by with_unfolding_all rfl) ?_ | with_reducible refine s_app (by with_unfolding_all rfl) ?_ | with_reducible refine few_and (by first | decide | (simp only [List.length_cons, List.length_nil, Nat.reduceAdd, Nat.reduceLeDiff])) ?_ | refine Or.inl ⟨by first | with_reducible rfl | with_reducible exact Bool.not_false, ?_⟩ | refine Or.inr ⟨by first | with_reducible rfl | with_reducible exact Bool.not_true, ?_⟩ | refine Exists.intro _ (Exists.intro _ ⟨rfl, rfl, gd rfl ?_⟩) | refine Exists.intro _ ⟨rfl, ?_⟩))
local macro_rules | `(tactic| decreasing_trivial) => `(tactic| repeat decreasing_trivial_pre_omega)
theorem s_pair {A B C : DS} {s : Sl} {N : Sl → Prop} {R : PyData → Sl → Prop} (h : Gs (sSeq A B s) (fun s1 => Gs (C s1) N R) R) : Gs (sSeq A (sSeq B C) s) N R := by
  have e : sSeq A (sSeq B C) s = sSeq (sSeq A B) C s := by
    unfold sSeq
    cases A s with
    | none => rfl
    | some f =>
      cases f with
      | nx s1 => rfl
      | rt d s1 => rfl
      | bk s1 => rfl
      | ct s1 => rfl
  rw [e]
  exact s_seq h
theorem setD {p p1 : List PyData} {zs : List Str} {ds : List (List Key × PyData)} {d3 d4 d5 d6 : PyData} {v6 v8 : SV} (w : Wn v6 v8) : setC (TS p zs ds (.dat d3) (.dat d4) (.dat d5) (.dat d6) .no v8) 0 p1 = TS p1 zs ds (.dat d3) (.dat d4) (.dat d5) (.dat d6) .no v8 := by
  rcases w with ⟨rfl, rfl⟩ | ⟨a, b, rfl, rfl⟩ <;> rfl
def tailT : DS := (sSeq (sSet 6 (dB gTuple (aCons (dL (fLc (itA (dVar 1)) 7 (dTst (dOp gEq (dCallM m__law_take 0 (aCons (dC (.int 2)) aNil)) (dC (.int 0)))) (dVar 7))) aNil)))
  (sSeq (sSet 8 (dOp gIx (dL (fLst (aCons (dC (.int 0)) (aCons (dC (.int 1)) (aCons (dC (.int 2)) (aCons (dC (.int 3)) (aCons (dOp gPow (dC (.int 10)) (dC (.int 6))) (aCons (dCallM m__law_take 0 (aCons (dOp gAdd (dOp gPow (dC (.int 10)) (dC (.int 6))) (dC (.int 1))) aNil)) aNil)))))))) (dCallM m__law_take 0 (aCons (dC (.int 6)) aNil))))
  (sIf (dTst (dOp gGt (dVar 5) (dC (.int 0))))
  (sPutD 2 (dOp gIx (dL (fLst (aCons (dOp gIx (dVar 1) (dCallM m__law_take 0 (aCons (dB gLen (aCons (dVar 1) aNil)) aNil))) (aCons (dVar 6) (aCons (dVar 8) aNil))))) (dOp gSub (dVar 5) (dC (.int 1)))) (dTup (aCons (dVar 3) (aCons (dVar 4) aNil))))
  sNil)))
theorem tail2_ok {zs : List Str} (l4 : zs.length = 4) (nm : ∀ z ∈ zs, nameB (.str z) = true) {n : Nat} {p0 : List PyData} (h : Pot n p0) (hn : n < 900000) {ds : List (List Key × PyData)} (hd : ∀ p ∈ ds, TsP p) (ld : ds.length ≤ 8) {z : Str} (nz : nameB (.str z) = true) {i j : Int} (hi : 0 ≤ i ∧ i ≤ 10) (hj : 0 ≤ j ∧ j < 4) {v6 v8 : SV} (w : Wn v6 v8) {N : Sl → Prop} {R : PyData → Sl → Prop}
    (k : ∀ (p : List PyData) (es : List (List Key × PyData)) (v6 v8 : SV), Pot (n + 7) p → (∀ p ∈ es, TsP p) → es.length ≤ ds.length + 1 → Wn v6 v8 → N (TS p zs es (.dat (.str z)) (.dat (.int i)) (.dat (.int j)) v6 .no v8)) :
    Gs (tailT (TS p0 zs ds (.dat (.str z)) (.dat (.int i)) (.dat (.int j)) v6 .no v8)) N R := by
  unfold tailT
  refine s_seq ?_
  refine s_set ?_
  refine e_b ?_
  refine a_cons ?_
  refine some_ok l4 nm h hn w fun xs p1 lx hx hp1 => ?_
  refine a_nil ?_
  refine gd (a := .tuple (xs.map .str)) rfl ?_
  show Gs _ _ _
  have vt : Va (.tuple (xs.map .str)) := .tup lx hx
  generalize PyData.tuple (xs.map .str) = dt at vt
  show Gs (sSeq _ _ (TS p1 zs ds (.dat (.str z)) (.dat (.int i)) (.dat (.int j)) (.dat dt) .no v8)) _ _
  decreasing_trivial
  refine million ?_
  decreasing_trivial
  refine million ?_
  decreasing_trivial
  refine pot_at hp1 (by omega) (by decide) (by decide) fun r2 p2 a2 b2 hp2 => ?_
  rw [setD w]
  decreasing_trivial
  refine pot_at hp2 (by omega) (by decide) (by decide) fun r3 p3 a3 b3 hp3 => ?_
  rw [setD w]
  decreasing_trivial
  refine ix_list _ a3 (by exact b3) fun d hd' => ?_
  have bi : ∃ q : Int, d = .int q ∧ 0 ≤ q ∧ q ≤ 1000000 := by
    have few : (1000000 : Int) + 1 = 1000001 := by decide
    rw [few] at b2
    simp only [List.mem_cons, List.not_mem_nil, or_false] at hd'
    rcases hd' with rfl | rfl | rfl | rfl | rfl | rfl
    all_goals first
      | exact ⟨_, rfl, by decide, by decide⟩
      | exact ⟨_, rfl, a2, by omega⟩
  obtain ⟨q, rfl, q0, q1⟩ := bi
  have len : gLen [.list (zs.map .str)] = some (.int 4) := by
    show some (PyData.int ((zs.map PyData.str).length : Nat)) = _
    rw [List.length_map, l4]
    rfl
  have lm : (((zs.map PyData.str).length : Nat) : Int) = 4 := by rw [List.length_map, l4]; rfl
  show Gs (sIf _ _ _ (TS p3 zs ds (.dat (.str z)) (.dat (.int i)) (.dat (.int j)) (.dat dt) .no (.dat (.int q)))) _ _
  decreasing_trivial
  by_cases c : 0 < j
  · refine .inl ⟨decide_eq_true c, ?_⟩
    refine s_putD ?_
    decreasing_trivial
    refine gd len ?_
    decreasing_trivial
    refine pot_at hp3 (by omega) (by decide) (by decide) fun r4 p4 a4 b4 hp4 => ?_
    decreasing_trivial
    refine ix_list (zs.map .str) a4 (by rw [lm]; exact b4) fun d hd' => ?_
    obtain ⟨y, hy, rfl⟩ := List.mem_map.mp hd'
    have ny := nm y hy
    decreasing_trivial
    refine ix_list _ (by omega) (by show j - 1 < 3; omega) fun d hd' => ?_
    have vd : Va d := by
      simp only [List.mem_cons, List.not_mem_nil, or_false] at hd'
      rcases hd' with rfl | rfl | rfl
      · exact .str ny
      · exact vt
      · exact .int q0 q1
    refine ⟨.kT ds, rfl, ?_⟩
    decreasing_trivial
    have few : ds.length < sizeLine := Nat.lt_of_le_of_lt ld (by decide)
    obtain ⟨h1, h2⟩ := putL_all hd nz hi vd
    refine gd (a := .kT (putL ds [.inr z, .inl i] d)) (by show (if ds.length < sizeLine then _ else _) = _; rw [if_pos few]; rfl) ?_
    exact k p4 _ (.dat dt) (.dat (.int q)) (hp4.mono (by omega)) h1 h2 (.inr ⟨_, _, rfl, rfl⟩)
  · refine .inr ⟨decide_eq_false c, s_nil ?_⟩
    exact k p3 ds (.dat dt) (.dat (.int q)) (hp3.mono (by omega)) hd (by omega) (.inr ⟨_, _, rfl, rfl⟩)
theorem taken_ok {zs : List Str} (l4 : zs.length = 4) (nm : ∀ z ∈ zs, nameB (.str z) = true) {n : Nat} {pd : List PyData} (h : Pot n pd) (hn : n < 800000) :
    Gd (m__law_taken pd [.list (zs.map .str)]) fun q => ∃ ds, q.1 = takenD ds ∧ ((∀ p ∈ ds, TsP p) ∧ ds.length ≤ 6) ∧ Pot (n + 70) q.2 := by
  unfold m__law_taken
  refine m_fnM rfl ?_
  unfold b__law_taken
  refine s_seq ?_
  refine s_newD (by show 2 < 9; decide) ?_
  show Gs (sSeq _ _ (TS pd zs [] .no .no .no .no .no .no)) _ _
  refine s_seq ?_
  refine s_for (I := fun r s => ∃ (p : List PyData) (ds : List (List Key × PyData)) (v3 v4 v5 v6 v8 : SV), s = TS p zs ds v3 v4 v5 v6 .no v8 ∧ (Wn v4 v5 ∧ Wn v6 v8) ∧ Pot (n + 60 - 10 * r.length) p ∧ (ds.length + r.length ≤ 6 ∧ r.length ≤ 6) ∧ (∀ p ∈ ds, TsP p) ∧ ∀ d ∈ r, ∃ z, d = .str z ∧ nameB (.str z) = true) ?_ (fun d r s hI => ?_) (fun s hI => ?_)
  · obtain ⟨a, b, c, e, rfl⟩ : ∃ a b c e, zs = [a, b, c, e] := by
      match zs, l4 with
      | [a, b, c, e], _ => exact ⟨a, b, c, e, rfl⟩
    decreasing_trivial
    refine gd (a := .list [.str a, .str b]) rfl ?_
    refine gd (a := .list [.str a, .str b, .str c, .str e, .str a, .str b]) rfl ?_
    refine .inl ⟨_, .inl rfl, pd, [], _, _, _, _, _, rfl, ⟨.inl ⟨rfl, rfl⟩, .inl ⟨rfl, rfl⟩⟩, ?_, ⟨Nat.le_of_ble_eq_true rfl, Nat.le_of_ble_eq_true rfl⟩, fun p hp => (by cases hp), fun d hd => ?_⟩
    · exact h.mono (show n ≤ n + 60 - 10 * 6 by omega)
    · simp only [List.mem_cons, List.not_mem_nil, or_false] at hd
      rcases hd with rfl | rfl | rfl | rfl | rfl | rfl
      · exact ⟨a, rfl, nm a (by simp)⟩
      · exact ⟨b, rfl, nm b (by simp)⟩
      · exact ⟨c, rfl, nm c (by simp)⟩
      · exact ⟨e, rfl, nm e (by simp)⟩
      · exact ⟨a, rfl, nm a (by simp)⟩
      · exact ⟨b, rfl, nm b (by simp)⟩
  · obtain ⟨p, ds, v3, v4, v5, v6, v8, rfl, ⟨w', w⟩, hp, ll, hd, hr⟩ := hI
    rw [List.length_cons] at hp ll
    obtain ⟨z, rfl, nz⟩ := hr d List.mem_cons_self
    refine ⟨TS p zs ds (.dat (.str z)) v4 v5 v6 .no v8, rfl, ?_⟩
    refine s_pair (C := tailT) ?_
    refine head_ok hp (by omega) w w' fun i j p1 hi hj hp1 => ?_
    refine tail2_ok l4 nm hp1 (by omega) hd (by omega) nz hi hj w fun p2 es u6 u8 hp2 he le w2 => ?_
    exact ⟨p2, es, _, _, _, u6, u8, rfl, ⟨.inr ⟨_, _, rfl, rfl⟩, w2⟩, hp2.mono (by omega), ⟨by omega, by omega⟩, he, fun d hd => hr d (List.mem_cons_of_mem _ hd)⟩
  · obtain ⟨p, ds, v3, v4, v5, v6, v8, rfl, ⟨w', w⟩, hp, ll, hd, hr⟩ := hI
    rw [List.length_nil] at hp ll
    refine s_seq ?_
    refine s_frzD (c := .kT ds) rfl ?_
    refine s_ret ?_
    refine e_var (d := takenD ds) rfl ?_
    exact ⟨p, rfl, ds, rfl, ⟨hd, by omega⟩, hp.mono (by omega)⟩
end K07

/-! what the law asks of one condition -/
namespace K07
open PySem PySem.Spec PyProof.Rows L2 Dl
local macro_rules | `(tactic| decreasing_trivial_pre_omega) => `(tactic| (first | with_reducible refine s_seq ?_ | with_reducible refine s_if ?_ | with_reducible refine s_set ?_ | with_reducible refine s_setIx ?_ | with_reducible refine s_ret ?_ | with_reducible refine s_nil ?_ | with_reducible refine s_own ?_ | with_reducible refine s_par ?_ | with_reducible refine t_tst ?_ | with_reducible refine t_and ?_ | with_reducible refine t_or ?_ | with_reducible refine t_not ?_ | with_reducible refine t_yes ?_ | with_reducible refine e_op ?_ | with_reducible refine e_un ?_ | with_reducible refine e_chain ?_ | with_reducible refine e_b ?_ | with_reducible refine e_c ?_ | with_reducible refine e_l ?_ | with_reducible refine e_tup ?_ | with_reducible refine e_call ?_ | with_reducible refine e_and ?_ | with_reducible refine e_or ?_ | with_reducible refine e_not ?_ | with_reducible refine e_if ?_ | with_reducible refine e_sl ?_ | with_reducible refine o_n ?_ | with_reducible refine o_s ?_ | with_reducible refine a_nil ?_ | with_reducible refine a_cons ?_ | with_reducible refine f_lst ?_ | with_reducible refine f_call ?_ | with_reducible refine f_itA ?_ | with_reducible refine f_r1 ?_ | with_reducible refine r_seq ?_ | with_reducible refine n_add ?_ | with_reducible refine n_sub ?_ | with_reducible refine n_gt ?_ | with_reducible refine n_ge ?_ | with_reducible refine n_lt ?_ | with_reducible refine n_le ?_ | with_reducible refine e_var (by with_unfolding_all rfl) ?_ | with_reducible refine e_ixc (by with_unfolding_all rfl) ?_ | with_reducible refine e_callM (by with_unfolding_all rfl) ?_ | with_reducible refine s_frz (by with_unfolding_all rfl) ?_ | with_reducible refine s_app (by with_unfolding_all rfl) ?_ | with_reducible refine few_and (by first | decide | (simp only [List.length_cons, List.length_nil, Nat.reduceAdd, Nat.reduceLeDiff])) ?_ | refine Or.inl ⟨by first | with_reducible rfl | with_reducible exact Bool.not_false, ?_⟩ | refine Or.inr ⟨by first | with_reducible rfl | with_reducible exact Bool.not_true, ?_⟩ | refine Exists.intro _ (Exists.intro _ ⟨rfl, rfl, gd rfl ?_⟩) | refine Exists.intro _ ⟨rfl, ?_⟩))
local macro_rules | `(tactic| decreasing_trivial) => `(tactic| repeat decreasing_trivial_pre_omega)
def AS (p : List PyData) (c T F : PyData) (v4 v5 v6 v7 v8 v9 : SV) : Sl := [.pot p, .dat c, .dat T, .dat F, v4, v5, v6, v7, v8, v9]
def W5 (v5 v6 v7 v8 v9 : SV) : Prop := (v5 = .no ∧ v6 = .no ∧ v7 = .no ∧ v8 = .no ∧ v9 = .no) ∨ ∃ a b c d e, v5 = .dat a ∧ v6 = .dat b ∧ v7 = .dat c ∧ v8 = .dat d ∧ v9 = .dat e
theorem setE {p p1 : List PyData} {c T F d4 : PyData} {v5 v6 v7 v8 v9 : SV} (w : W5 v5 v6 v7 v8 v9) : setC (AS p c T F (.dat d4) v5 v6 v7 v8 v9) 0 p1 = AS p1 c T F (.dat d4) v5 v6 v7 v8 v9 := by
  rcases w with ⟨rfl, rfl, rfl, rfl, rfl⟩ | ⟨a, b, c, d, e, rfl, rfl, rfl, rfl, rfl⟩ <;> rfl
theorem due_arg {p way : Int} (hp : 0 ≤ p ∧ p < 5) : Gd (gMulB (.int p) (.int (if decide (way < 3) = true then 1 else 0))) fun d => d = .int (someOf way p) := by
  show Gd (gMul (.int p) _) _
  refine n_mul 3 (by omega) (by omega) (by split <;> omega) (by split <;> omega) (by decide) (by decide) ?_
  unfold someOf
  by_cases c : way < 3
  · rw [if_pos c, if_pos (decide_eq_true c), Int.mul_one]
  · rw [if_neg c, if_neg (by simp [c]), Int.mul_zero]
theorem ne_self (x : Str) : gNe (.str x) (.str x) = some (.bool false) := by
  show some (PyData.bool (!(x == x))) = _
  rw [beq_self_eq_true]
  rfl
theorem ne_bool (b : Bool) : gNe (.bool b) (.bool b) = some (.bool false) := by cases b <;> rfl
theorem in_ways {way : Int} (h0 : 0 ≤ way) (h1 : way < 5) : gIn false (.int way) (.tuple [.int 0, .int 1, .int 3]) = some (.bool (decide (way = 0 ∨ way = 1 ∨ way = 3))) := by
  have ways : way = 0 ∨ way = 1 ∨ way = 2 ∨ way = 3 ∨ way = 4 := by omega
  rcases ways with rfl | rfl | rfl | rfl | rfl <;> rfl
def innerA : DS := (sFor (itR1 (dC (.int 2))) (tgN 8)
  (sSeq (sSet 9 (dCall m__law_told (aCons (dVar 4) (aCons (dVar 1) (aCons (dVar 2) (aCons (dVar 5) (aCons (dVar 3) aNil)))))))
  (sIf (dOrT (dNotT (dTst (dUn (gIsi "bool") (dVar 9)))) (dOrT (dTst (dOp gNe (dVar 9) (dVar 7))) (dTst (dOp gNe (dB gReprT (aCons (dTup (aCons (dVar 1) (aCons (dVar 2) (aCons (dVar 3) aNil)))) aNil)) (dVar 6)))))
  (sRet (dC (.bool false)))
  sNil)))
theorem inner_ok {k : Nat} {c T : PyData} {kvs : List (PyData × PyData)} {t : Str → Int → Option PyData} {fo : Str → Int} {x way : Int} {S : Str} (fd : Fit k c) (kb : condB c = true) (tk : Tk T t) (fk : Fk (.dict kvs) fo) (h0 : 0 ≤ way) (h1 : way < 5)
    (hS : gReprT [.tuple [c, T, .dict kvs]] = some (.str S)) {p : List PyData} {v8 v9 : SV} {N : Sl → Prop} {R : PyData → Sl → Prop}
    (kk : ∀ v8 v9 : SV, W5 (.dat (.int x)) (.dat (.str S)) (.dat (.bool (hv t (folkOf way fo) 6 (someOf way x) c))) v8 v9 → N (AS p c T (.dict kvs) (.dat (.int way)) (.dat (.int x)) (.dat (.str S)) (.dat (.bool (hv t (folkOf way fo) 6 (someOf way x) c))) v8 v9)) :
    Gs (innerA (AS p c T (.dict kvs) (.dat (.int way)) (.dat (.int x)) (.dat (.str S)) (.dat (.bool (hv t (folkOf way fo) 6 (someOf way x) c))) v8 v9)) N R := by
  unfold innerA
  refine s_for (I := fun r s => ∃ v8 v9 : SV, s = AS p c T (.dict kvs) (.dat (.int way)) (.dat (.int x)) (.dat (.str S)) (.dat (.bool (hv t (folkOf way fo) 6 (someOf way x) c))) v8 v9 ∧ (r.length = 2 ∨ ∃ a b, v8 = .dat a ∧ v9 = .dat b)) ?_ (fun d r s hI => ?_) (fun s hI => ?_)
  · decreasing_trivial
    exact ⟨by decide, by decide, _, _, rfl, .inl (by decide)⟩
  · obtain ⟨v8, v9, rfl, _⟩ := hI
    refine ⟨AS p c T (.dict kvs) (.dat (.int way)) (.dat (.int x)) (.dat (.str S)) (.dat (.bool (hv t (folkOf way fo) 6 (someOf way x) c))) (.dat d) v9, rfl, ?_⟩
    decreasing_trivial
    refine gd_mono (told_ok (p := x) fd kb tk fk h0 h1) fun q hq => ?_
    subst hq
    decreasing_trivial
    refine gd (a := .bool true) rfl ?_
    decreasing_trivial
    refine gd (ne_bool _) ?_
    decreasing_trivial
    refine gd hS ?_
    decreasing_trivial
    refine gd (ne_self S) ?_
    decreasing_trivial
    exact ⟨_, _, rfl, .inr ⟨_, _, rfl, rfl⟩⟩
  · obtain ⟨v8, v9, rfl, l⟩ := hI
    rcases l with l | ⟨a, b, rfl, rfl⟩
    · cases l
    · exact kk _ _ (.inr ⟨_, _, _, _, _, rfl, rfl, rfl, rfl, rfl⟩)
theorem asked_ok {k : Nat} {cs : List PyData} {ds : List (List Key × PyData)} {kvs : List (PyData × PyData)} (fc : Fit k (.tuple cs)) (hk : k ≤ 18) (wc : wt (.tuple cs) ≤ 1000000) (kb : condB (.tuple cs) = true) (hT : ∀ p ∈ ds, TsP p) (lT : ds.length ≤ 10) (hF : ∀ p ∈ kvs, FsP p) (lF : kvs.length ≤ 10)
    {n : Nat} {pd : List PyData} (h : Pot n pd) (hn : n < 900000) : Gd (m__law_asked_right pd [.tuple cs, takenD ds, .dict kvs]) fun q => q.1 = .bool true ∧ Pot (n + 10) q.2 := by
  obtain ⟨S, hS⟩ := reprT_ok fc hk wc hT lT hF lF
  have tk := tk_of hT
  have fk := fk_of hF
  generalize takenD ds = T at hS tk
  generalize hc : PyData.tuple cs = c at hS fc kb
  unfold m__law_asked_right
  refine m_fnM rfl ?_
  unfold b__law_asked_right
  show Gs (sSeq _ _ (AS pd c T (.dict kvs) .no .no .no .no .no .no)) _ _
  refine s_seq ?_
  refine s_for (I := fun r s => ∃ (p : List PyData) (v4 v5 v6 v7 v8 v9 : SV), s = AS p c T (.dict kvs) v4 v5 v6 v7 v8 v9 ∧ W5 v5 v6 v7 v8 v9 ∧ Pot (n + 5 - r.length) p ∧ r.length ≤ 5 ∧ ∀ d ∈ r, ∃ way : Int, d = .int way ∧ 0 ≤ way ∧ way < 5) ?_ (fun d r s hI => ?_) (fun s hI => ?_)
  · decreasing_trivial
    have e5 : Dl.rng 0 5 = [.int 0, .int 1, .int 2, .int 3, .int 4] := by rfl
    rw [e5]
    refine ⟨by decide, by decide, pd, _, _, _, _, _, _, rfl, .inl ⟨rfl, rfl, rfl, rfl, rfl⟩, h.mono (show n ≤ n + 5 - 5 by omega), by decide, fun d hd => ?_⟩
    simp only [List.mem_cons, List.not_mem_nil, or_false] at hd
    rcases hd with rfl | rfl | rfl | rfl | rfl <;> exact ⟨_, rfl, by decide, by decide⟩
  · obtain ⟨p, v4, v5, v6, v7, v8, v9, rfl, w, hp, ll, hr⟩ := hI
    rw [List.length_cons] at hp ll
    obtain ⟨way, rfl, w0, w1⟩ := hr d List.mem_cons_self
    refine ⟨AS p c T (.dict kvs) (.dat (.int way)) v5 v6 v7 v8 v9, rfl, ?_⟩
    decreasing_trivial
    refine pot_at hp (by omega) (by decide) (by decide) fun x p1 a1 b1 hp1 => ?_
    rw [setE w]
    decreasing_trivial
    refine gd hS ?_
    decreasing_trivial
    refine gd (a := .int (if decide (way < 3) = true then 1 else 0)) rfl ?_
    decreasing_trivial
    refine gd_mono (due_arg (way := way) ⟨a1, by omega⟩) fun e he => ?_
    subst he
    decreasing_trivial
    refine gd (in_ways w0 w1) ?_
    decreasing_trivial
    have rest : ∀ {F : PyData}, Fk F (folkOf way (foOf kvs)) → Gd (m__law_holds 7 [c, T, .int (someOf way x), F]) fun q => q = .bool (hv (tOf ds) (folkOf way (foOf kvs)) 6 (someOf way x) c) := fun {F} fF => law_holds_ok tk fF 6 c (condB_hc kb) 7 (by decide) _
    have out : ∀ {q : PyData} {s : Sl}, s = AS p1 c T (.dict kvs) (.dat (.int way)) (.dat (.int x)) (.dat (.str S)) v7 v8 v9 → q = .bool (hv (tOf ds) (folkOf way (foOf kvs)) 6 (someOf way x) c) → Gs (innerA (s.set 7 (.dat q))) (fun s => ∃ (p : List PyData) (v4 v5 v6 v7 v8 v9 : SV), s = AS p c T (.dict kvs) v4 v5 v6 v7 v8 v9 ∧ W5 v5 v6 v7 v8 v9 ∧ Pot (n + 5 - r.length) p ∧ r.length ≤ 5 ∧ ∀ d ∈ r, ∃ way : Int, d = .int way ∧ 0 ≤ way ∧ way < 5) (fun d s => ∃ pd', potOf s[0]? = some pd' ∧ (d, pd').1 = .bool true ∧ Pot (n + 10) (d, pd').2) := fun {q s} hs hq => by
      subst hs hq
      refine inner_ok (p := p1) (v8 := v8) (v9 := v9) fc kb tk fk w0 w1 hS fun v8 v9 w => ?_
      exact ⟨p1, _, _, _, _, _, _, rfl, w, hp1.mono (by omega), by omega, fun d hd => hr d (List.mem_cons_of_mem _ hd)⟩
    by_cases cw : way = 0 ∨ way = 1 ∨ way = 3
    · refine .inl ⟨decide_eq_true cw, ?_⟩
      refine e_var rfl ?_
      refine a_nil ?_
      refine gd_mono (rest (F := .dict kvs) (by unfold folkOf; rw [if_pos cw]; exact fk)) fun q hq => ?_
      exact out rfl hq
    · refine .inr ⟨decide_eq_false cw, ?_⟩
      refine e_c ?_
      refine a_nil ?_
      refine gd_mono (rest (F := .dict []) (by unfold folkOf; rw [if_neg cw]; exact fk_none)) fun q hq => ?_
      exact out rfl hq
  · obtain ⟨p, v4, v5, v6, v7, v8, v9, rfl, w, hp, ll, hr⟩ := hI
    rw [List.length_nil] at hp
    refine s_ret ?_
    refine e_c ?_
    exact ⟨p, rfl, rfl, hp.mono (by omega)⟩
end K07

/-! the law's parts -/
namespace K07
open PySem PySem.Spec PyProof.Rows L2 Dl
local macro_rules | `(tactic| decreasing_trivial_pre_omega) => `(tactic| (first | with_reducible refine s_seq ?_ | with_reducible refine s_if ?_ | with_reducible refine s_set ?_ | with_reducible refine s_setIx ?_ | with_reducible refine s_ret ?_ | with_reducible refine s_nil ?_ | with_reducible refine s_own ?_ | with_reducible refine s_par ?_ | with_reducible refine t_tst ?_ | with_reducible refine t_and ?_ | with_reducible refine t_or ?_ | with_reducible refine t_not ?_ | with_reducible refine t_yes ?_ | with_reducible refine e_op ?_ | with_reducible refine e_un ?_ | with_reducible refine e_chain ?_ | with_reducible refine e_b ?_ | with_reducible refine e_c ?_ | with_reducible refine e_l ?_ | with_reducible refine e_tup ?_ | with_reducible refine e_call ?_ | with_reducible refine e_and ?_ | with_reducible refine e_or ?_ | with_reducible refine e_not ?_ | with_reducible refine e_if ?_ | with_reducible refine e_sl ?_ | with_reducible refine o_n ?_ | with_reducible refine o_s ?_ | with_reducible refine a_nil ?_ | with_reducible refine a_cons ?_ | with_reducible refine f_lst ?_ | with_reducible refine f_call ?_ | with_reducible refine f_itA ?_ | with_reducible refine f_r1 ?_ | with_reducible refine r_seq ?_ | with_reducible refine n_add ?_ | with_reducible refine n_sub ?_ | with_reducible refine n_gt ?_ | with_reducible refine n_ge ?_ | with_reducible refine n_lt ?_ | with_reducible refine n_le ?_ | with_reducible refine e_var (by with_unfolding_all rfl) ?_ | with_reducible refine e_ixc (by with_unfolding_all rfl) ?_ | with_reducible refine e_callM (by with_unfolding_all rfl) ?_ | with_reducible refine s_frz (by with_unfolding_all rfl) ?_ | with_reducible refine s_app (by with_unfolding_all rfl) ?_ | with_reducible refine few_and (by first | decide | (simp only [List.length_cons, List.length_nil, Nat.reduceAdd, Nat.reduceLeDiff])) ?_ | refine Or.inl ⟨by first | with_reducible rfl | with_reducible exact Bool.not_false, ?_⟩ | refine Or.inr ⟨by first | with_reducible rfl | with_reducible exact Bool.not_true, ?_⟩ | refine Exists.intro _ (Exists.intro _ ⟨rfl, rfl, gd rfl ?_⟩) | refine Exists.intro _ ⟨rfl, ?_⟩))
local macro_rules | `(tactic| decreasing_trivial) => `(tactic| repeat decreasing_trivial_pre_omega)
def loopA : DS := (sFor (itR1 (dC (.int 3))) (tgN 4)
  (sSeq (sSet 5 (dCallM m__law_condition 2 (aCons (dVar 3) aNil)))
  (sSeq (sAsg (dTup (aCons (dCallM m__law_taken 2 (aCons (dVar 3) aNil)) (aCons (dCallM m__law_folk 2 (aCons (dVar 3) aNil)) aNil))) (tgT [(tgN 6), (tgN 7)]))
  (sIf (dNotT (dTst (dCallM m__law_asked_right 2 (aCons (dVar 5) (aCons (dVar 6) (aCons (dVar 7) aNil))))))
  (sRet (dC (.bool false)))
  sNil))))
def loopB : DS := (sFor (itA (dL (fLst (aCons (dCallM (m__law_bent 5) 2 (aCons (dVar 5) (aCons (dC (.int 4)) aNil))) (aCons (dCallM m__law_odd 2 aNil) (aCons (dB gList (aCons (dVar 5) aNil)) (aCons (dTup (aCons (dC (.str "and")) (aCons (dTup (aCons (dVar 5) aNil)) aNil))) (aCons (dTup (aCons (dC (.str "not")) aNil)) aNil)))))))) (tgN 8)
  (sIf (dAndT (dNotT (dTst (dCall m__law_is_condition (aCons (dVar 8) aNil)))) (dTst (dOp gNe (dWord q_ w__law_word m_holds (aCons (dVar 8) (aCons (dVar 6) (aCons (dC (.int 0)) (aCons (dVar 7) aNil))))) (dC (.str "condition")))))
  (sRet (dC (.bool false)))
  sNil))
def endA : DS := (sSeq (sSet 6 (dDispT [((dTup (aCons (dC (.str "a")) (aCons (dC (.int 0)) aNil))), (dC (.str "b"))), ((dTup (aCons (dC (.str "a")) (aCons (dC (.int 2)) aNil))), (dC (.str "c"))), ((dTup (aCons (dC (.str "n")) (aCons (dC (.int 1)) aNil))), (dC (.int 7)))]))
  (sSeq (sIf (dOrT (dTst (dCall (withD (okOf m_holds) [.none]) (aCons (dTup (aCons (dC (.str "is")) (aCons (dC (.str "a")) (aCons (dC (.str "b")) aNil)))) (aCons (dVar 6) (aCons (dC (.int 2)) aNil))))) (dOrT (dNotT (dTst (dCall (withD (okOf m_holds) [.none]) (aCons (dTup (aCons (dC (.str "is")) (aCons (dC (.str "a")) (aCons (dC (.str "b")) aNil)))) (aCons (dVar 6) (aCons (dC (.int 1)) aNil)))))) (dTst (dCall (withD (okOf m_holds) [.int 0, .none]) (aCons (dTup (aCons (dC (.str "from")) (aCons (dC (.str "n")) (aCons (dC (.int 7)) aNil)))) (aCons (dVar 6) aNil))))))
  (sRet (dC (.bool false)))
  sNil)
  (sRet (dAnd (dCallK (okOf m_holds) 2 1 (fun us zs => pick [(0, 0), (0, 1), (1, 0), (2, 0)] us [.int 0, .none] zs) (aCons (dTup (aCons (dC (.str "any")) (aCons (dC (.str "r")) (aCons (dTup (aCons (dC (.str "from")) (aCons (dC (.str "n")) (aCons (dC (.int 7)) aNil)))) aNil)))) (aCons (dVar 6) aNil)) (aCons (dDispK [((dC (.str "r")), (dC (.int 1)))]) aNil)) (dCall (withD (okOf m_holds) [.int 0, .none]) (aCons (dTup (aCons (dC (.str "every")) (aCons (dC (.str "r")) (aCons (dTup (aCons (dC (.str "is")) (aCons (dC (.str "x")) (aCons (dC (.str "y")) aNil)))) aNil)))) (aCons (dVar 6) aNil)))))))
def dsA : List (List Key × PyData) := [([.inr "a", .inl 0], .str "b"), ([.inr "a", .inl 2], .str "c"), ([.inr "n", .inl 1], .int 7)]
theorem disp_ok {s : Sl} {Q : PyData → Sl → Prop} (k : Q (takenD dsA) s) : Ge (dDispT [((dTup (aCons (dC (.str "a")) (aCons (dC (.int 0)) aNil))), (dC (.str "b"))), ((dTup (aCons (dC (.str "a")) (aCons (dC (.int 2)) aNil))), (dC (.str "c"))), ((dTup (aCons (dC (.str "n")) (aCons (dC (.int 1)) aNil))), (dC (.int 7)))] s) Q := by
  refine ⟨_, s, ?_, k⟩
  show (if dsA.length ≤ 15 ∧ (dsA.map (·.1)).Nodup then some (takenD dsA, s) else none) = _
  exact if_pos ⟨by decide, by decide +kernel⟩
theorem tkA : Tk (takenD dsA) (tOf dsA) := tk_av fun p hp => by
  simp only [dsA, List.mem_cons, List.not_mem_nil, or_false] at hp
  rcases hp with rfl | rfl | rfl
  · exact .str _
  · exact .str _
  · exact .int _
def kvA : List (PyData × PyData) := [(.str "r", .int 1)]
theorem dispK_ok {s : Sl} {Q : PyData → Sl → Prop} (k : Q (.dict kvA) s) : Ge (dDispK [((dC (.str "r")), (dC (.int 1)))] s) Q := by
  refine ⟨_, s, ?_, k⟩
  show (if 1 ≤ 15 then some (PyData.dict kvA, s) else none) = _
  exact if_pos (by decide)
theorem fkA : Fk (.dict kvA) (foOf kvA) := fk_of fun p hp => by
  rw [List.mem_singleton.mp hp]
  exact ⟨"r", 1, rfl, by decide +kernel, by decide, by decide⟩
theorem all_nil {p : PyData → Prop} : ∀ d ∈ ([] : List PyData), p d := fun d hd => by cases hd
theorem all_cons {p : PyData → Prop} {a : PyData} {r : List PyData} (h : p a) (k : ∀ d ∈ r, p d) : ∀ d ∈ a :: r, p d := fun d hd => by
  rcases List.mem_cons.mp hd with rfl | q
  · exact h
  · exact k d q
def cA : PyData := .tuple [.str "is", .str "a", .str "b"]
def cB : PyData := .tuple [.str "from", .str "n", .int 7]
def cC : PyData := .tuple [.str "any", .str "r", .tuple [.str "from", .str "n", .int 7]]
def cD : PyData := .tuple [.str "every", .str "r", .tuple [.str "is", .str "x", .str "y"]]
theorem fit_all {d : PyData} : d = cA ∨ d = cB ∨ d = cC ∨ d = cD → Fit 3 d ∧ condB d = true := by
  rintro (rfl | rfl | rfl | rfl)
  · exact ⟨by unfold cA; repeat (first | assumption | exact fit_none _ | exact fit_bool _ _ | exact fit_dict _ | exact fit_str _ ⟨by decide, by decide⟩ | exact fit_int _ (by decide +kernel) | exact fit_nil _ | exact fit_nilL _ | exact all_nil | refine all_cons ?_ ?_ | refine fit_tup (by first | decide | (simp only [List.length_cons, List.length_nil, Nat.reduceAdd, Nat.reduceLeDiff])) ?_ | refine fit_lst (by first | decide | (simp only [List.length_cons, List.length_nil, Nat.reduceAdd, Nat.reduceLeDiff])) ?_), by decide +kernel⟩
  · exact ⟨by unfold cB; repeat (first | assumption | exact fit_none _ | exact fit_bool _ _ | exact fit_dict _ | exact fit_str _ ⟨by decide, by decide⟩ | exact fit_int _ (by decide +kernel) | exact fit_nil _ | exact fit_nilL _ | exact all_nil | refine all_cons ?_ ?_ | refine fit_tup (by first | decide | (simp only [List.length_cons, List.length_nil, Nat.reduceAdd, Nat.reduceLeDiff])) ?_ | refine fit_lst (by first | decide | (simp only [List.length_cons, List.length_nil, Nat.reduceAdd, Nat.reduceLeDiff])) ?_), by decide +kernel⟩
  · exact ⟨by unfold cC; repeat (first | assumption | exact fit_none _ | exact fit_bool _ _ | exact fit_dict _ | exact fit_str _ ⟨by decide, by decide⟩ | exact fit_int _ (by decide +kernel) | exact fit_nil _ | exact fit_nilL _ | exact all_nil | refine all_cons ?_ ?_ | refine fit_tup (by first | decide | (simp only [List.length_cons, List.length_nil, Nat.reduceAdd, Nat.reduceLeDiff])) ?_ | refine fit_lst (by first | decide | (simp only [List.length_cons, List.length_nil, Nat.reduceAdd, Nat.reduceLeDiff])) ?_), by decide +kernel⟩
  · exact ⟨by unfold cD; repeat (first | assumption | exact fit_none _ | exact fit_bool _ _ | exact fit_dict _ | exact fit_str _ ⟨by decide, by decide⟩ | exact fit_int _ (by decide +kernel) | exact fit_nil _ | exact fit_nilL _ | exact all_nil | refine all_cons ?_ ?_ | refine fit_tup (by first | decide | (simp only [List.length_cons, List.length_nil, Nat.reduceAdd, Nat.reduceLeDiff])) ?_ | refine fit_lst (by first | decide | (simp only [List.length_cons, List.length_nil, Nat.reduceAdd, Nat.reduceLeDiff])) ?_), by decide +kernel⟩
theorem end_ok {s : Sl} (l : s.length = 10) : Gs (endA s) (fun _ => False) fun d _ => d = .bool true := by
  obtain ⟨a0, a1, a2, a3, a4, a5, a6, a7, a8, a9, rfl⟩ : ∃ a0 a1 a2 a3 a4 a5 a6 a7 a8 a9, s = [a0, a1, a2, a3, a4, a5, a6, a7, a8, a9] := by
    match s, l with
    | [a0, a1, a2, a3, a4, a5, a6, a7, a8, a9], _ => exact ⟨a0, a1, a2, a3, a4, a5, a6, a7, a8, a9, rfl⟩
  unfold endA
  refine s_seq ?_
  refine s_set ?_
  refine disp_ok ?_
  obtain ⟨f1, k1⟩ := fit_all (d := cA) (.inl rfl)
  obtain ⟨f2, k2⟩ := fit_all (d := cB) (.inr (.inl rfl))
  obtain ⟨f3, k3⟩ := fit_all (d := cC) (.inr (.inr (.inl rfl)))
  obtain ⟨f4, k4⟩ := fit_all (d := cD) (.inr (.inr (.inr rfl)))
  show Gs (sSeq _ _ [a0, a1, a2, a3, a4, a5, .dat (takenD dsA), a7, a8, a9]) _ _
  decreasing_trivial
  refine withD_ok ?_
  refine ok_gd (holds_ok (p := 2) f1 k1 tkA .none) ?_
  refine ⟨false, congrArg PyData.bool (by decide +kernel), .inr ⟨rfl, ?_⟩⟩
  decreasing_trivial
  refine withD_ok ?_
  refine ok_gd (holds_ok (p := 1) f1 k1 tkA .none) ?_
  refine ⟨true, congrArg PyData.bool (by decide +kernel), .inr ⟨rfl, ?_⟩⟩
  decreasing_trivial
  refine withD_ok ?_
  refine ok_gd (holds_ok (p := 0) f2 k2 tkA .none) ?_
  refine ⟨false, congrArg PyData.bool (by decide +kernel), .inr ⟨rfl, ?_⟩⟩
  decreasing_trivial
  refine e_callK ?_
  decreasing_trivial
  refine dispK_ok ?_
  decreasing_trivial
  refine ⟨rfl, rfl, ?_⟩
  refine ok_gd (holds_ok (p := 0) f3 k3 tkA (.dict fkA)) ?_
  refine ⟨true, congrArg PyData.bool (by decide +kernel), .inl ⟨rfl, ?_⟩⟩
  decreasing_trivial
  refine withD_ok ?_
  refine ok_gd (holds_ok (p := 0) f4 k4 tkA .none) ?_
  exact congrArg PyData.bool (by decide +kernel)
end K07

/-! the law -/
namespace K07
open PySem PySem.Spec PyProof.Rows L2 Dl
local macro_rules | `(tactic| decreasing_trivial_pre_omega) => `(tactic| (first | with_reducible refine s_seq ?_ | with_reducible refine s_if ?_ | with_reducible refine s_set ?_ | with_reducible refine s_setIx ?_ | with_reducible refine s_ret ?_ | with_reducible refine s_nil ?_ | with_reducible refine s_own ?_ | with_reducible refine s_par ?_ | with_reducible refine t_tst ?_ | with_reducible refine t_and ?_ | with_reducible refine t_or ?_ | with_reducible refine t_not ?_ | with_reducible refine t_yes ?_ | with_reducible refine e_op ?_ | with_reducible refine e_un ?_ | with_reducible refine e_chain ?_ | with_reducible refine e_b ?_ | with_reducible refine e_c ?_ | with_reducible refine e_l ?_ | with_reducible refine e_tup ?_ | with_reducible refine e_call ?_ | with_reducible refine e_and ?_ | with_reducible refine e_or ?_ | with_reducible refine e_not ?_ | with_reducible refine e_if ?_ | with_reducible refine e_sl ?_ | with_reducible refine o_n ?_ | with_reducible refine o_s ?_ | with_reducible refine a_nil ?_ | with_reducible refine a_cons ?_ | with_reducible refine f_lst ?_ | with_reducible refine f_call ?_ | with_reducible refine f_itA ?_ | with_reducible refine f_r1 ?_ | with_reducible refine r_seq ?_ | with_reducible refine n_add ?_ | with_reducible refine n_sub ?_ | with_reducible refine n_gt ?_ | with_reducible refine n_ge ?_ | with_reducible refine n_lt ?_ | with_reducible refine n_le ?_ | with_reducible refine e_var (by with_unfolding_all rfl) ?_ | with_reducible refine e_ixc (by with_unfolding_all rfl) ?_ | with_reducible refine e_callM (by with_unfolding_all rfl) ?_ | with_reducible refine s_frz (by with_unfolding_all rfl) ?_ | with_reducible refine s_app (by with_unfolding_all rfl) ?_ | with_reducible refine few_and (by first | decide | (simp only [List.length_cons, List.length_nil, Nat.reduceAdd, Nat.reduceLeDiff])) ?_ | refine Or.inl ⟨by first | with_reducible rfl | with_reducible exact Bool.not_false, ?_⟩ | refine Or.inr ⟨by first | with_reducible rfl | with_reducible exact Bool.not_true, ?_⟩ | refine Exists.intro _ (Exists.intro _ ⟨rfl, rfl, gd rfl ?_⟩) | refine Exists.intro _ ⟨rfl, ?_⟩))
local macro_rules | `(tactic| decreasing_trivial) => `(tactic| repeat decreasing_trivial_pre_omega)
def script (ns : List Int) : PyData := .dict [(.none, .list (ns.map .int))]
def LS (ns : List Int) (k : Nat) (p : List PyData) (zs : List Str) (v4 v5 v6 v7 v8 : SV) : Sl := [.dat (script ns), .dat (.int (k : Nat)), .own p, .dat (.list (zs.map .str)), v4, v5, v6, v7, v8, .tab q_]
theorem tab_ok (ns : List Int) (k : Nat) (p : List PyData) (zs : List Str) (d4 d5 d6 d7 d8 : PyData) : okTab (LS ns k p zs (.dat d4) (.dat d5) (.dat d6) (.dat d7) (.dat d8)) q_ = true := by
  unfold okTab LS
  rw [Bool.and_eq_true]
  refine ⟨List.any_eq_true.mpr ⟨.tab q_, by simp, by simp⟩, List.all_eq_true.mpr fun v hv => ?_⟩
  simp only [List.mem_cons, List.not_mem_nil, or_false] at hv
  rcases hv with rfl | rfl | rfl | rfl | rfl | rfl | rfl | rfl | rfl | rfl
  all_goals first
    | rfl
    | exact decide_eq_true rfl
theorem word_cond : w__law_word (some "NoCondition") = some "condition" := by decide +kernel
theorem word_at {s : Sl} {m : List PyData → Option (Rx PyData)} {ga : DA} {Q : PyData → Sl → Prop} (ok : okTab s q_ = true) (h : Ge (ga s) fun ds s1 => Gd (m ds) fun r => r = .ex "NoCondition" ∧ Q (.str "condition") s1) : Ge (dWord q_ w__law_word m ga s) Q := by
  refine e_word ok (ge_mono h fun ds s1 g => gd_mono g fun r hr => ?_)
  obtain ⟨rfl, k⟩ := hr
  exact ⟨"condition", word_cond, k⟩
structure Cd (c : PyData) : Prop where
  kb : condB c = true
  fit : Fit 12 c
  wt_ : wt c ≤ 1000000
  tup : ∃ cs, c = .tuple cs
  pl : Pl 12 c
theorem cd_of {c : PyData} {u : Nat} (hu : u ≤ 30) (cn : Cn 6 false u c) : Cd c := by
  have kb : condB c = true := by
    unfold condB
    rw [cn.num 6 (Nat.le_refl _)]
    have := cn.one
    simp only [Bool.and_eq_true, decide_eq_true_eq]
    omega
  refine ⟨kb, fit_pl cn.pl, ?_, hc_tup (condB_hc kb), cn.pl⟩
  have a := cn.wt_
  have b : 400 * (6 * u) ≤ 400 * (6 * 30) := Nat.mul_le_mul_left _ (Nat.mul_le_mul_left _ hu)
  omega
/-- behind a turn -/
def Dn (v4 v5 v6 v7 : SV) : Prop := ∃ (a c : PyData) (ds : List (List Key × PyData)) (kvs : List (PyData × PyData)), v4 = .dat a ∧ v5 = .dat c ∧ v6 = .dat (takenD ds) ∧ v7 = .dat (.dict kvs) ∧ Cd c
theorem loopA_ok {ns : List Int} {k : Nat} {zs : List Str} (l4 : zs.length = 4) (nm : ∀ z ∈ zs, nameB (.str z) = true) {p0 : List PyData} (h : Pot 100 p0) {v4 v5 v6 v7 v8 : SV} {N : Sl → Prop} {R : PyData → Sl → Prop}
    (kk : ∀ (p : List PyData) (v4 v5 v6 v7 : SV), Dn v4 v5 v6 v7 → Pot 600000 p → N (LS ns k p zs v4 v5 v6 v7 v8)) : Gs (loopA (LS ns k p0 zs v4 v5 v6 v7 v8)) N R := by
  unfold loopA
  refine s_for (I := fun r s => ∃ (p : List PyData) (v4 v5 v6 v7 : SV), s = LS ns k p zs v4 v5 v6 v7 v8 ∧ Pot (100 + 187200 * (3 - r.length)) p ∧ r.length ≤ 3 ∧ (r.length = 3 ∨ Dn v4 v5 v6 v7)) ?_ (fun d r s hI => ?_) (fun s hI => ?_)
  · decreasing_trivial
    have l : (Dl.rng 0 3).length = 3 := by decide
    rw [l]
    exact ⟨by decide, by decide, p0, _, _, _, _, rfl, h.mono (by decide), by decide, .inl rfl⟩
  · obtain ⟨p, v4, v5, v6, v7, rfl, hp, ll, _⟩ := hI
    rw [List.length_cons] at hp ll
    refine ⟨LS ns k p zs (.dat d) v5 v6 v7 v8, rfl, ?_⟩
    decreasing_trivial
    refine gd_mono (condition_ok l4 nm hp (by omega)) fun q hq => ?_
    obtain ⟨c, p1⟩ := q
    obtain ⟨u, hu, cn, hp1⟩ := hq
    have cd : Cd c := cd_of hu cn
    have hp1 : Pot _ p1 := hp1
    show Gs (sSeq _ _ (LS ns k p1 zs (.dat d) (.dat c) v6 v7 v8)) _ _
    refine s_seq ?_
    refine s_asg ?_
    decreasing_trivial
    refine gd_mono (taken_ok l4 nm hp1 (by omega)) fun q hq => ?_
    obtain ⟨T, p2⟩ := q
    obtain ⟨ds, eT, ⟨hT, lT⟩, hp2⟩ := hq
    have eT : T = takenD ds := eT
    subst eT
    have hp2 : Pot _ p2 := hp2
    decreasing_trivial
    refine gd_mono (folk_ok l4 nm hp2 (by omega)) fun q hq => ?_
    obtain ⟨F, p3⟩ := q
    obtain ⟨kvs, eF, ⟨hF, lF⟩, hp3⟩ := hq
    have eF : F = .dict kvs := eF
    subst eF
    have hp3 : Pot _ p3 := hp3
    decreasing_trivial
    refine gd (a := LS ns k p3 zs (.dat d) (.dat c) (.dat (takenD ds)) (.dat (.dict kvs)) v8) rfl ?_
    decreasing_trivial
    obtain ⟨cs, rfl⟩ := cd.tup
    refine gd_mono (asked_ok cd.fit (by decide) cd.wt_ cd.kb hT (by omega) hF (by omega) hp3 (by omega)) fun q hq => ?_
    obtain ⟨b, p4⟩ := q
    obtain ⟨eb, hp4⟩ := hq
    have eb : b = .bool true := eb
    subst eb
    have hp4 : Pot _ p4 := hp4
    decreasing_trivial
    exact ⟨p4, _, _, _, _, rfl, hp4.mono (by omega), by omega, .inr ⟨d, _, ds, kvs, rfl, rfl, rfl, rfl, cd⟩⟩
  · obtain ⟨p, v4, v5, v6, v7, rfl, hp, ll, dn⟩ := hI
    rw [List.length_nil] at hp
    rcases dn with dn | dn
    · cases dn
    · exact kk p _ _ _ _ dn (hp.mono (by decide))
theorem loopB_ok {ns : List Int} {k : Nat} {zs : List Str} {p0 : List PyData} (h : Pot 600000 p0) {v4 v5 v6 v7 v8 : SV} (dn : Dn v4 v5 v6 v7) {N : Sl → Prop} {R : PyData → Sl → Prop}
    (kk : ∀ (p : List PyData) (v4 v5 v6 v7 v8 : SV), N (LS ns k p zs v4 v5 v6 v7 v8)) : Gs (loopB (LS ns k p0 zs v4 v5 v6 v7 v8)) N R := by
  obtain ⟨a, c, ds, kvs, rfl, rfl, rfl, rfl, cd⟩ := dn
  unfold loopB
  refine s_for (I := fun r s => (∀ d ∈ r, Fit 50 d) ∧ ∃ p v8, s = LS ns k p zs (.dat a) (.dat c) (.dat (takenD ds)) (.dat (.dict kvs)) v8) ?_ (fun e r s hI => ?_) (fun s hI => ?_)
  · decreasing_trivial
    refine gd_mono (bent_ok 4 12 _ c p0 (by decide) cd.pl h (by decide)) fun q hq => ?_
    obtain ⟨d6, p6⟩ := q
    obtain ⟨⟨f6, _⟩, hp6⟩ := hq
    have hp6 : Pot _ p6 := hp6
    decreasing_trivial
    refine gd_mono (odd_ok hp6 (by decide)) fun q hq => ?_
    obtain ⟨d7, p7⟩ := q
    obtain ⟨⟨f7, _⟩, hp7⟩ := hq
    decreasing_trivial
    obtain ⟨cs, rfl⟩ := cd.tup
    refine gd (a := .list cs) rfl ?_
    decreasing_trivial
    have fk := cd.fit
    have fl : Fit 12 (.list cs) := fit_lst fk.1 fk.2
    refine .inl ⟨_, .inl rfl, ?_, p7, _, rfl⟩
    exact all_cons (fit_le f6 (by decide)) (all_cons (fit_le f7 (by decide)) (all_cons (fit_le fl (by decide)) (all_cons (fit_le (fit_tup (k := 13) (Nat.le_of_ble_eq_true rfl) (all_cons (fit_str _ ⟨by decide, by decide +kernel⟩) (all_cons (fit_tup (k := 12) (Nat.le_of_ble_eq_true rfl) (all_cons fk all_nil)) all_nil))) (by decide)) (all_cons (fit_le (fit_tup (k := 0) (Nat.le_of_ble_eq_true rfl) (all_cons (fit_str _ ⟨by decide, by decide +kernel⟩) all_nil)) (by decide)) all_nil))))
  · obtain ⟨td, p, u8, rfl⟩ := hI
    have fe := td e List.mem_cons_self
    have td' : ∀ d ∈ r, Fit 50 d := fun e he => td e (List.mem_cons_of_mem _ he)
    refine ⟨LS ns k p zs (.dat a) (.dat c) (.dat (takenD ds)) (.dat (.dict kvs)) (.dat e), rfl, ?_⟩
    decreasing_trivial
    refine gd_mono (law_is_condition_ok fe) fun v hv => ?_
    have hv : v = .bool (condB e) := hv
    subst hv
    decreasing_trivial
    cases kb2 : condB e with
    | true =>
      decreasing_trivial
      exact ⟨td', p, _, rfl⟩
    | false =>
      decreasing_trivial
      refine word_at (tab_ok _ _ _ _ _ _ _ _ _) ?_
      decreasing_trivial
      refine gd_mono (holds_no fe kb2) fun z hz => ⟨hz, ?_⟩
      decreasing_trivial
      refine gd (ne_self _) ?_
      decreasing_trivial
      exact ⟨td', p, _, rfl⟩
  · obtain ⟨_, p, u8, rfl⟩ := hI
    exact kk p _ _ _ _ _
theorem law_ok (ns : List Int) (h : ns.length ≤ 63) : Gs (b_law (startT ["_law_script", "_law_k", "_law_pot_here", "_law_names_here", "_law_turn", "_law_condition_here", "_law_taken_here", "_law_house", "_law_thing", "~tab"] q_ [script ns])) (fun _ => False) fun d _ => d = .bool true := by
  show Gs (b_law [.dat (script ns), .no, .no, .no, .no, .no, .no, .no, .no, .tab q_]) _ _
  unfold b_law
  refine s_seq ?_
  refine s_for (I := fun r s => (∀ d ∈ r, ∃ k : Nat, d = .int (k : Int) ∧ k < 100) ∧ ∃ v1 v2 v3 v4 v5 v6 v7 v8 : SV, s = [.dat (script ns), v1, v2, v3, v4, v5, v6, v7, v8, .tab q_]) ?_ (fun d r s hI => ?_) (fun s hI => ?_)
  · decreasing_trivial
    refine gd (a := .int ((ns.map PyData.int).length : Nat)) rfl ?_
    decreasing_trivial
    refine gd (a := .int (if ((ns.map PyData.int).length : Int) < 10 then ((ns.map PyData.int).length : Int) else 10)) rfl ?_
    decreasing_trivial
    refine gd (a := .int (if (if ((ns.map PyData.int).length : Int) < 10 then ((ns.map PyData.int).length : Int) else 10) > 3 then (if ((ns.map PyData.int).length : Int) < 10 then ((ns.map PyData.int).length : Int) else 10) else 3)) rfl ?_
    decreasing_trivial
    generalize hm : (if (if ((ns.map PyData.int).length : Int) < 10 then ((ns.map PyData.int).length : Int) else 10) > 3 then (if ((ns.map PyData.int).length : Int) < 10 then ((ns.map PyData.int).length : Int) else 10) else 3) = m
    have m0 : 0 ≤ m ∧ m ≤ 10 := by
      rw [← hm]
      split <;> split <;> omega
    refine ⟨m0.1, by omega, fun d hd => ?_, _, _, _, _, _, _, _, _, rfl⟩
    unfold Dl.rng at hd
    obtain ⟨k, hk, rfl⟩ := List.mem_map.mp hd
    have hk' := List.mem_range.mp hk
    exact ⟨k, by rw [Int.zero_add], by omega⟩
  · obtain ⟨hr, v1, v2, v3, v4, v5, v6, v7, v8, rfl⟩ := hI
    obtain ⟨k, rfl, hk⟩ := hr d List.mem_cons_self
    have hr' : ∀ d ∈ r, ∃ k : Nat, d = .int (k : Int) ∧ k < 100 := fun e he => hr e (List.mem_cons_of_mem _ he)
    refine ⟨_, rfl, ?_⟩
    decreasing_trivial
    refine gd_mono (pot_ok (ns := ns) hk) fun pd hpd => ?_
    refine ⟨by show 2 < 10; decide, ?_⟩
    decreasing_trivial
    refine gd_mono (names_ok hpd (by decide)) fun q hq => ?_
    obtain ⟨d1, p1⟩ := q
    obtain ⟨zs, e, l4, nm, hp1⟩ := hq
    have e' : d1 = .list (zs.map .str) := e
    subst e'
    have hp1' : Pot 100 p1 := (show Pot _ p1 from hp1).mono (by omega)
    show Gs (sSeq loopA loopB (LS ns k p1 zs v4 v5 v6 v7 v8)) _ _
    refine s_seq ?_
    refine loopA_ok l4 nm hp1' fun p2 w4 w5 w6 w7 dn hp2 => ?_
    refine loopB_ok hp2 dn fun p3 x4 x5 x6 x7 x8 => ?_
    exact ⟨hr', _, _, _, _, _, _, _, _, rfl⟩
  · obtain ⟨_, v1, v2, v3, v4, v5, v6, v7, v8, rfl⟩ := hI
    exact end_ok rfl
theorem law_true (ns : List Int) (h : ns.length ≤ 63) : fnT ["_law_script", "_law_k", "_law_pot_here", "_law_names_here", "_law_turn", "_law_condition_here", "_law_taken_here", "_law_house", "_law_thing", "~tab"] q_ 1 b_law [.dict [(.none, .list (ns.map .int))]] = some (.bool true) := by
  obtain ⟨⟨s, e, z⟩ | ⟨d, s, e, rfl⟩⟩ := law_ok ns h
  · exact z.elim
  · unfold fnT
    rw [if_pos (show [PyData.dict [(PyData.none, PyData.list (ns.map PyData.int))]].length = 1 from rfl)]
    have e' : b_law (startT ["_law_script", "_law_k", "_law_pot_here", "_law_names_here", "_law_turn", "_law_condition_here", "_law_taken_here", "_law_house", "_law_thing", "~tab"] q_ [.dict [(.none, .list (ns.map .int))]]) = _ := e
    rw [e']
    rfl
end K07

open PySem PySem.W PySem.Calls PyProof.Rows
theorem PySem.Challenge.cw_askround_k07_what_holds_holds : PySem.Challenge.rw_askround_k07_what_holds.Holds := by
  w_on; o_law
  refine HandSHeadRun.head_any (r := K07.R_) (q := view K07.R_.prog [75]) (H := K07.hk_) (ob := K07.ob_) (M := 30000) (loose := K07.names_) (d := HandSHeadRun.topDef K07.R_.prog 75) (kwd := []) K07.ob_eq
    (by kernel_rfl) (fun s => by kernel_rfl) K07.run_ (by kernel_rfl) (by kernel_rfl) (by kernel_rfl) (by rfl) (by first | assumption | decide +kernel) (by decide +kernel) ⟨rfl, rfl, rfl, rfl, rfl, by decide +kernel⟩ ?hw ?hc
  case hw => w_witness2
  case hc =>
    exact Dl.walk_dataT (l := PySem.Challenge.rw_askround_k07_what_holds) (n := 63) (k := 28) (qq := K07.q_) rfl (by decide) (by kernel_rfl) (by kernel_rfl) (by kernel_rfl) ⟨rfl, by decide, by decide⟩ K07.sc_law (by decide) (fun w mg h K X G c cc Fx => K07.facts_ w mg h K X G c cc Fx) K07.law_true
