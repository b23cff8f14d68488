import PyProof.Rows.All
import HandS.ForMost
import HandS.IsInst
import HandS.Wide
import HandS.WideMore
import HandS.TupAny
import HandS.Style
import HandS.Deep
import HandS.Flow
import HandS.SetKeys
import HandS.Steps
import HandS.ForExc
import HandS.HeadHook1
import HandS.Lambda
import PyProof.EqKinds
import HandS.Strs
import KE.KEqNest
import PyProof.ReprRoads
import PyProof.ReprReads
import HandS.SetFor
import HandS.Ends
import HandS.TupLe
import HandS.HeadEnd
import HandS.HeadHook2
import HandS.HeadNt
import HandS.Head0
import HandS.Head1
import HandS.Head2
import HandS.Gcd
import HandS.Head3
import HandS.ExcIs
import HandS.HeadHook4
import HandS.FStr
import HandS.Star
import HandS.RaiseMore
import HandS.TupMul
import HandS.TryOnly
import HandS.Defaults
import HandS.MakeKw
import KE.KDictDisplayH
import HandS.Zip
import KE.GoesEnum
import KE.KIndexOf
import HandS.DictComp
import KE.GoesMore
import PySem.Challenge.RW_askround_k70_given_away
set_option Elab.async false
set_option linter.all false
set_option maxRecDepth 100000
set_option maxHeartbeats 4000000
/-! ### A layer of plain data: what a body does, told as a partial function over trees of data -/
namespace Dl
open PySem PySem.Spec PyProof.Rows L2

def kD : Key → PyData
  | .inl i => .int i
  | .inr x => .str x

/-- no key of a dict: no whole number in it -/
def keyless (ds : List PyData) : Bool := ds.all fun d => match d with
  | .int _ => false
  | _ => true
/-- the entries of a dict whose keys are tuples; ahead of them stands (.none, .none) -/
def kvD (ds : List (List Key × PyData)) : List (PyData × PyData) := ds.map fun p => (.tuple (p.1.map kD), p.2)
/-- an exception of the class of that name (a class of the program's own, without fields), as a tree -/
def excD (c : Str) : PyData := .dict [(.none, .str c)]
def ExZ (C a : Addr) : HO := .ext fun h => ∃ oe : Obj, h.get? a = some oe ∧ Zc (.ref C) none oe ∧ ∃ vs : Array Value, oe.data = .fields vs
mutual
/-- the value v stands for the tree d; nothing of it may be written (mu: what may be) -/
inductive Dt (K : PySem.W.Frag) (mu : Addr → Prop) (H : Hp) : V → PyData → Prop
  | non : Dt K mu H .non .none
  | bl (b : Bool) : Dt K mu H (.bl b) (.bool b)
  | int (i : Int) : Dt K mu H (.int i) (.int i)
  | str (x : Str) : Dt K mu H (.str x) (.str x)
  | lst {a : Addr} {xs : List V} {ds : List PyData} : Rd H a (.lst xs) → ¬ mu a → DtAll K mu H xs ds → Dt K mu H (.ref a) (.list ds)
  | scr {a : Addr} {xs : List V} {ds : List PyData} : (Rd H a (.lst xs) ∧ ¬ mu a) ∨ (∀ H', SqL K H' a xs) → DtAll K mu H xs ds → Dt K mu H (.ref a) (.dict [(.none, .list ds)])
  | tup {a : Addr} {xs : List V} {ds : List PyData} : H a = some (.tup xs) → ¬ mu a → DtAll K mu H xs ds → Dt K mu H (.ref a) (.tuple ds)
  | tupK {a : Addr} {xs : List V} {ds : List PyData} : (∀ H', SqT K H' a xs) → keyless ds = true → DtAll K mu H xs ds → Dt K mu H (.ref a) (.tuple ds)
  | dct {a : Addr} {kvs : List (Key × V)} {ds : List (PyData × PyData)} : H a = some (.dK kvs) → ¬ mu a → DtKv K mu H kvs ds → Dt K mu H (.ref a) (.dict ds)
  | dcT {a : Addr} {kvs : List (List Key × V)} {ds : List (List Key × PyData)} : H a = some (.dT kvs) → ¬ mu a → DtKT K mu H kvs ds → Dt K mu H (.ref a) (.dict ((.none, .none) :: kvD ds))
  | exc {a : Addr} {c : Str} : H a = some (ExZ (He.ga K c) a) → ¬ mu a → Dt K mu H (.ref a) (.dict [(.none, .str c)])
inductive DtAll (K : PySem.W.Frag) (mu : Addr → Prop) (H : Hp) : List V → List PyData → Prop
  | nil : DtAll K mu H [] []
  | cons {v : V} {vs : List V} {d : PyData} {ds : List PyData} : Dt K mu H v d → DtAll K mu H vs ds → DtAll K mu H (v :: vs) (d :: ds)
inductive DtKv (K : PySem.W.Frag) (mu : Addr → Prop) (H : Hp) : List (Key × V) → List (PyData × PyData) → Prop
  | nil : DtKv K mu H [] []
  | cons {k : Key} {v : V} {vs : List (Key × V)} {d : PyData} {ds : List (PyData × PyData)} : Dt K mu H v d → DtKv K mu H vs ds → DtKv K mu H ((k, v) :: vs) ((kD k, d) :: ds)
inductive DtKT (K : PySem.W.Frag) (mu : Addr → Prop) (H : Hp) : List (List Key × V) → List (List Key × PyData) → Prop
  | nil : DtKT K mu H [] []
  | cons {k : List Key} {v : V} {vs : List (List Key × V)} {d : PyData} {ds : List (List Key × PyData)} : Dt K mu H v d → DtKT K mu H vs ds → DtKT K mu H ((k, v) :: vs) ((k, d) :: ds)
end

/-- what stood and could not be written stands, and can not be written -/
def Kp (mu : Addr → Prop) (H : Hp) (mu' : Addr → Prop) (H' : Hp) : Prop := ∀ a o, H a = some o → ¬ mu a → H' a = some o ∧ ¬ mu' a
theorem Kp.refl (mu : Addr → Prop) (H : Hp) : Kp mu H mu H := fun _ _ h n => ⟨h, n⟩
theorem Kp.trans {m1 m2 m3 : Addr → Prop} {H1 H2 H3 : Hp} (a : Kp m1 H1 m2 H2) (b : Kp m2 H2 m3 H3) : Kp m1 H1 m3 H3 := fun x o h n =>
  let ⟨h2, n2⟩ := a x o h n
  b x o h2 n2
theorem Kp.rd {m1 m2 : Addr → Prop} {H1 H2 : Hp} (k : Kp m1 H1 m2 H2) {a : Addr} {u : HO} (h : Rd H1 a u) (n : ¬ m1 a) : Rd H2 a u ∧ ¬ m2 a := by
  rcases h with h | ⟨o, h⟩
  · exact ⟨.inl (k a _ h n).1, (k a _ h n).2⟩
  · exact ⟨.inr ⟨o, (k a _ h n).1⟩, (k a _ h n).2⟩

section
variable {K : PySem.W.Frag} {mu mu' : Addr → Prop} {H H' : Hp}
mutual
theorem Dt.mono (k : Kp mu H mu' H') : ∀ {v : V} {d : PyData}, Dt K mu H v d → Dt K mu' H' v d
  | _, _, .non => .non
  | _, _, .bl b => .bl b
  | _, _, .int i => .int i
  | _, _, .str x => .str x
  | _, _, .lst h n t => .lst (k.rd h n).1 (k.rd h n).2 (DtAll.mono k t)
  | _, _, .scr h t => .scr (h.elim (fun z => .inl ⟨(k.rd z.1 z.2).1, (k.rd z.1 z.2).2⟩) .inr) (DtAll.mono k t)
  | _, _, .tup h n t => .tup (k _ _ h n).1 (k _ _ h n).2 (DtAll.mono k t)
  | _, _, .tupK h z t => .tupK h z (DtAll.mono k t)
  | _, _, .dcT h n t => .dcT (k _ _ h n).1 (k _ _ h n).2 (DtKT.mono k t)
  | _, _, .dct h n t => .dct (k _ _ h n).1 (k _ _ h n).2 (DtKv.mono k t)
  | _, _, .exc h n => .exc (k _ _ h n).1 (k _ _ h n).2
theorem DtAll.mono (k : Kp mu H mu' H') : ∀ {vs : List V} {ds : List PyData}, DtAll K mu H vs ds → DtAll K mu' H' vs ds
  | _, _, .nil => .nil
  | _, _, .cons h t => .cons (Dt.mono k h) (DtAll.mono k t)
theorem DtKv.mono (k : Kp mu H mu' H') : ∀ {vs : List (Key × V)} {ds : List (PyData × PyData)}, DtKv K mu H vs ds → DtKv K mu' H' vs ds
  | _, _, .nil => .nil
  | _, _, .cons h t => .cons (Dt.mono k h) (DtKv.mono k t)
theorem DtKT.mono (k : Kp mu H mu' H') : ∀ {vs : List (List Key × V)} {ds : List (List Key × PyData)}, DtKT K mu H vs ds → DtKT K mu' H' vs ds
  | _, _, .nil => .nil
  | _, _, .cons h t => .cons (Dt.mono k h) (DtKT.mono k t)
end
theorem DtAll.len : ∀ {vs : List V} {ds : List PyData}, DtAll K mu H vs ds → vs.length = ds.length
  | _, _, .nil => rfl
  | _, _, .cons _ t => by rw [List.length_cons, List.length_cons, DtAll.len t]
theorem DtAll.get : ∀ {vs : List V} {ds : List PyData} {i : Nat} {d : PyData}, DtAll K mu H vs ds → ds[i]? = some d → ∃ v, vs[i]? = some v ∧ Dt K mu H v d
  | _, _, _, _, .nil, e => by simp at e
  | _, _, 0, _, .cons h _, e => by simp at e; subst e; exact ⟨_, rfl, h⟩
  | _, _, i + 1, _, .cons _ t, e => by
    obtain ⟨v, h1, h2⟩ := DtAll.get (i := i) t (by simpa using e)
    exact ⟨v, by simpa using h1, h2⟩
theorem DtAll.getv : ∀ {vs : List V} {ds : List PyData} {i : Nat} {v : V}, DtAll K mu H vs ds → vs[i]? = some v → ∃ d, ds[i]? = some d ∧ Dt K mu H v d
  | _, _, _, _, .nil, e => by simp at e
  | _, _, 0, _, .cons h _, e => by simp at e; subst e; exact ⟨_, rfl, h⟩
  | _, _, i + 1, _, .cons _ t, e => by
    obtain ⟨v, h1, h2⟩ := DtAll.getv (i := i) t (by simpa using e)
    exact ⟨v, by simpa using h1, h2⟩
theorem DtAll.append : ∀ {vs ws : List V} {ds es : List PyData}, DtAll K mu H vs ds → DtAll K mu H ws es → DtAll K mu H (vs ++ ws) (ds ++ es)
  | _, _, _, _, .nil, h => h
  | _, _, _, _, .cons h t, k => .cons h (DtAll.append t k)
theorem DtAll.take : ∀ {vs : List V} {ds : List PyData} (n : Nat), DtAll K mu H vs ds → DtAll K mu H (vs.take n) (ds.take n)
  | _, _, 0, _ => by simp; exact .nil
  | _, _, n + 1, .nil => .nil
  | _, _, n + 1, .cons h t => .cons h (DtAll.take n t)
theorem DtAll.drop : ∀ {vs : List V} {ds : List PyData} (n : Nat), DtAll K mu H vs ds → DtAll K mu H (vs.drop n) (ds.drop n)
  | _, _, 0, h => h
  | _, _, n + 1, .nil => .nil
  | _, _, n + 1, .cons h t => DtAll.drop n t
theorem DtAll.rev : ∀ {vs : List V} {ds : List PyData}, DtAll K mu H vs ds → DtAll K mu H vs.reverse ds.reverse
  | _, _, .nil => .nil
  | _, _, .cons h t => by
    rw [List.reverse_cons, List.reverse_cons]
    exact DtAll.append (DtAll.rev t) (.cons h .nil)
theorem DtAll.set {v : V} {d : PyData} (h : Dt K mu H v d) : ∀ {vs : List V} {ds : List PyData} (n : Nat), DtAll K mu H vs ds → DtAll K mu H (vs.set n v) (ds.set n d)
  | _, _, _, .nil => .nil
  | _, _, 0, .cons _ t => .cons h t
  | _, _, n + 1, .cons g t => .cons g (DtAll.set h n t)
theorem Dt.list {v : V} {ds : List PyData} (h : Dt K mu H v (.list ds)) : ∃ a xs, v = .ref a ∧ SqL K H a xs ∧ DtAll K mu H xs ds := by
  cases h with
  | lst h n t => exact ⟨_, _, rfl, .inl h, t⟩
theorem Dt.listR {v : V} {ds : List PyData} (h : Dt K mu H v (.list ds)) : ∃ a xs, v = .ref a ∧ Rd H a (.lst xs) ∧ DtAll K mu H xs ds := by
  cases h with
  | lst h n t => exact ⟨_, _, rfl, h, t⟩
theorem kD_none (k : Key) : kD k ≠ .none := by cases k <;> intro h <;> cases h
/-- the script -/
theorem Dt.script {v : V} {ds : List PyData} (h : Dt K mu H v (.dict [(.none, .list ds)])) : ∃ a xs, v = .ref a ∧ SqL K H a xs ∧ DtAll K mu H xs ds := by
  generalize e : PyData.dict [(.none, .list ds)] = d at h
  cases h with
  | scr h t =>
    cases e
    exact ⟨_, _, rfl, h.elim (fun z => .inl z.1) fun z => z H, t⟩
  | dct h n t =>
    cases e
    generalize e2 : [(PyData.none, PyData.list ds)] = kds at t
    cases t with
    | nil => cases e2
    | @cons k v vs d ds t1 t2 =>
      exact absurd (Prod.mk.inj (List.cons.inj e2).1).1.symm (kD_none k)
  | _ => cases e
/-- a dict that is one -/
def realD : List (PyData × PyData) → Bool
  | (.none, _) :: _ => false
  | _ => true
theorem Dt.real {v : V} {kvs : List (PyData × PyData)} (h : Dt K mu H v (.dict kvs)) (r : realD kvs = true) : ∃ a xs, v = .ref a ∧ H a = some (.dK xs) ∧ DtKv K mu H xs kvs := by
  cases h with
  | scr h t => cases r
  | dct h n t => exact ⟨_, _, rfl, h, t⟩
  | dcT h n t => cases r
  | exc h n => cases r
theorem Dt.tuple {v : V} {ds : List PyData} (h : Dt K mu H v (.tuple ds)) : ∃ a xs, v = .ref a ∧ SqT K H a xs ∧ DtAll K mu H xs ds := by
  cases h with
  | tup h n t => exact ⟨_, _, rfl, .inl (.inl h), t⟩
  | tupK h z t => exact ⟨_, _, rfl, h H, t⟩
theorem Dt.inti {v : V} {i : Int} (h : Dt K mu H v (.int i)) : v = .int i := by cases h; rfl
theorem Dt.bool {v : V} {b : Bool} (h : Dt K mu H v (.bool b)) : v = .bl b := by cases h; rfl
theorem Dt.text {v : V} {x : Str} (h : Dt K mu H v (.str x)) : v = .str x := by cases h; rfl
theorem Dt.none_ {v : V} (h : Dt K mu H v .none) : v = .non := by cases h; rfl
theorem DtAll.ints : ∀ {vs : List V} {ns : List Int}, DtAll K mu H vs (ns.map .int) → vs = ns.map V.int
  | _, [], .nil => rfl
  | _, n :: r, .cons h t => by
    have e := h.inti
    have e2 := DtAll.ints t
    subst e e2
    rfl
theorem DtAll.texts : ∀ {vs : List V} {ns : List Str}, DtAll K mu H vs (ns.map .str) → vs = ns.map V.str
  | _, [], .nil => rfl
  | _, n :: r, .cons h t => by
    have e := h.text
    have e2 := DtAll.texts t
    subst e e2
    rfl
theorem DtAll.bools : ∀ {vs : List V} {ns : List Bool}, DtAll K mu H vs (ns.map .bool) → vs = ns.map V.bl
  | _, [], .nil => rfl
  | _, n :: r, .cons h t => by
    have e := h.bool
    have e2 := DtAll.bools t
    subst e e2
    rfl
theorem dtAll_ints : ∀ ns : List Int, DtAll K mu H (ns.map V.int) (ns.map .int)
  | [] => .nil
  | n :: r => .cons (.int n) (dtAll_ints r)
theorem dtAll_texts : ∀ ns : List Str, DtAll K mu H (ns.map V.str) (ns.map .str)
  | [] => .nil
  | n :: r => .cons (.str n) (dtAll_texts r)
theorem dtAll_bools : ∀ ns : List Bool, DtAll K mu H (ns.map V.bl) (ns.map .bool)
  | [] => .nil
  | n :: r => .cons (.bl n) (dtAll_bools r)
end

/-! ### a body's names: data, a list of its own that it fills, the list that was handed in to be changed, nothing -/
/-- what a dict of one's own holds: keys that are tuples; keys that are numbers and texts -/
inductive Ct where
  | kT (ds : List (List Key × PyData)) | kK (ds : List (PyData × PyData))
def CtOk (K : PySem.W.Frag) (mu : Addr → Prop) (H : Hp) (a : Addr) : Ct → Prop
  | .kT ds => ∃ kvs, H a = some (.dT kvs) ∧ DtKT K mu H kvs ds
  | .kK ds => ∃ kvs, H a = some (.dK kvs) ∧ DtKv K mu H kvs ds
theorem CtOk.mono {K : PySem.W.Frag} {mu mu' : Addr → Prop} {H H' : Hp} {a : Addr} {c : Ct} (h : CtOk K mu H a c) (k : Kp mu H mu' H') (s : ∀ o, H a = some o → H' a = some o) : CtOk K mu' H' a c := by
  cases c with
  | kT ds =>
    obtain ⟨kvs, e, t⟩ := h
    exact ⟨kvs, s _ e, t.mono k⟩
  | kK ds =>
    obtain ⟨kvs, e, t⟩ := h
    exact ⟨kvs, s _ e, t.mono k⟩
theorem CtOk.there {K : PySem.W.Frag} {mu : Addr → Prop} {H : Hp} {a : Addr} {c : Ct} (h : CtOk K mu H a c) : ∃ o, H a = some o ∧ ∀ xs, o ≠ .lst xs := by
  cases c with
  | kT ds =>
    obtain ⟨kvs, e, t⟩ := h
    exact ⟨_, e, fun xs z => by cases z⟩
  | kK ds =>
    obtain ⟨kvs, e, t⟩ := h
    exact ⟨_, e, fun xs z => by cases z⟩
inductive SV where
  | dat (d : PyData) | own (ds : List PyData) | pot (ds : List PyData) | no | tab (q : Str) | dic (c : Ct)
abbrev Sl := List SV
/-- what is fixed through a body: the heap at its entry, the address of the list that may be changed -/
structure Par where
  H0 : Hp
  p : Option Addr
  m0 : Addr → Prop
def Mu (Z : Par) (M : List Addr) : Addr → Prop := fun a => Z.m0 a ∨ Z.p = some a ∨ a ∈ M

/-- .. through an expression or a statement: all that stood stands, but the list handed in and the names' own -/
def Kq (Z : Par) (M : List Addr) (H : Hp) (M' : List Addr) (H' : Hp) : Prop := ∀ a o, H a = some o → Z.p ≠ some a → a ∉ M → H' a = some o ∧ a ∉ M'
theorem Kq.kp {Z : Par} {M M' : List Addr} {H H' : Hp} (k : Kq Z M H M' H') : Kp (Mu Z M) H (Mu Z M') H' := fun a o h n =>
  let ⟨h1, h2⟩ := k a o h (fun z => n (.inr (.inl z))) (fun z => n (.inr (.inr z)))
  ⟨h1, fun q => q.elim (fun z => n (.inl z)) fun q => q.elim (fun z => n (.inr (.inl z))) h2⟩
theorem Kq.refl (Z : Par) (M : List Addr) (H : Hp) : Kq Z M H M H := fun _ _ h _ n => ⟨h, n⟩
theorem Kq.trans {Z : Par} {M1 M2 M3 : List Addr} {H1 H2 H3 : Hp} (a : Kq Z M1 H1 M2 H2) (b : Kq Z M2 H2 M3 H3) : Kq Z M1 H1 M3 H3 := fun x o h p n =>
  let ⟨h2, n2⟩ := a x o h p n
  b x o h2 p n2
theorem kq_grow {Z : Par} {M : List Addr} {H H' : Hp} (g : ∀ a o, H a = some o → H' a = some o) : Kq Z M H M H' := fun a o e _ n => ⟨g a o e, n⟩

inductive SlAll (K : PySem.W.Frag) (mu : Addr → Prop) (p : Option Addr) (H : Hp) : L2.St → Sl → List Addr → Prop
  | nil : SlAll K mu p H [] [] []
  | dat {v : V} {d : PyData} {σ : L2.St} {s : Sl} {M : List Addr} : Dt K mu H v d → SlAll K mu p H σ s M → SlAll K mu p H (some v :: σ) (.dat d :: s) M
  | no {x : Option V} {σ : L2.St} {s : Sl} {M : List Addr} : SlAll K mu p H σ s M → SlAll K mu p H (x :: σ) (.no :: s) M
  | own {a : Addr} {xs : List V} {ds : List PyData} {σ : L2.St} {s : Sl} {M : List Addr} : H a = some (.lst xs) → DtAll K mu H xs ds → a ∉ M → SlAll K mu p H σ s M → SlAll K mu p H (some (.ref a) :: σ) (.own ds :: s) (a :: M)
  | pot {a : Addr} {xs : List V} {ds : List PyData} {σ : L2.St} {s : Sl} {M : List Addr} : p = some a → H a = some (.lst xs) → DtAll K mu H xs ds → SlAll K mu p H σ s M → SlAll K mu p H (some (.ref a) :: σ) (.pot ds :: s) M
  | tab {x : Option V} {a : Addr} {ps : Array Value} {q : Str} {σ : L2.St} {s : Sl} {M : List Addr} : p = some a → H a = some (.tbl ps) → TriplesOk ps.toList → (∀ (pos : Pos) (cv : Value), codeAmong pos ps.toList = some cv → ∃ c, cv = .ref c ∧ H c = some (LamX.CodeO c q) ∧ ¬ mu c) → SlAll K mu p H σ s M → SlAll K mu p H (x :: σ) (.tab q :: s) M
  | dic {a : Addr} {c : Ct} {σ : L2.St} {s : Sl} {M : List Addr} : CtOk K mu H a c → a ∉ M → SlAll K mu p H σ s M → SlAll K mu p H (some (.ref a) :: σ) (.dic c :: s) (a :: M)

structure Rel (K : PySem.W.Frag) (Z : Par) (M : List Addr) (σ : L2.St) (H : Hp) (s : Sl) : Prop where
  base : ∀ a o, Z.H0 a = some o → Z.p ≠ some a → H a = some o
  fr : ∀ a ∈ M, Z.H0 a = none ∧ Z.p ≠ some a ∧ ¬ Z.m0 a ∧ ∃ o, H a = some o
  mz : ∀ a, Z.m0 a → ∃ o, H a = some o
  pt : ∀ a, Z.p = some a → ∃ o, H a = some o
  sl : SlAll K (Mu Z M) Z.p H σ s M

section
variable {K : PySem.W.Frag} {mu mu' : Addr → Prop} {H H' : Hp} {p : Option Addr} {Z : Par} {M M' : List Addr} {σ : L2.St} {s : Sl}
theorem Rel.muT (r : Rel K Z M σ H s) : ∀ a, Mu Z M a → ∃ o, H a = some o := fun a h => by
  rcases h with h | h | h
  · exact r.mz a h
  · exact r.pt a h
  · exact (r.fr a h).2.2.2
theorem SlAll.grow (g : ∀ a o, H a = some o → H' a = some o) : ∀ {σ : L2.St} {s : Sl} {M : List Addr}, SlAll K mu p H σ s M → SlAll K mu p H' σ s M
  | _, _, _, .nil => .nil
  | _, _, _, .dat h t => .dat (h.mono fun a o e n => ⟨g a o e, n⟩) (SlAll.grow g t)
  | _, _, _, .no t => .no (SlAll.grow g t)
  | _, _, _, .own h d n t => .own (g _ _ h) (d.mono fun a o e n => ⟨g a o e, n⟩) n (SlAll.grow g t)
  | _, _, _, .pot e h d t => .pot e (g _ _ h) (d.mono fun a o e n => ⟨g a o e, n⟩) (SlAll.grow g t)
  | _, _, _, .tab e h d f t => .tab e (g _ _ h) d (fun pos cv z => let ⟨c, h1, h2, h3⟩ := f pos cv z; ⟨c, h1, g _ _ h2, h3⟩) (SlAll.grow g t)
  | _, _, _, .dic h n t => .dic (h.mono (fun a o e n => ⟨g a o e, n⟩) (g _)) n (SlAll.grow g t)
theorem Rel.grow (r : Rel K Z M σ H s) (g : ∀ a o, H a = some o → H' a = some o) : Rel K Z M σ H' s :=
  ⟨fun a o h n => g a o (r.base a o h n), fun a h => ⟨(r.fr a h).1, (r.fr a h).2.1, (r.fr a h).2.2.1, let ⟨o, e⟩ := (r.fr a h).2.2.2; ⟨o, g a o e⟩⟩, fun a h => let ⟨o, e⟩ := r.mz a h; ⟨o, g a o e⟩, fun a h => let ⟨o, e⟩ := r.pt a h; ⟨o, g a o e⟩, r.sl.grow g⟩
theorem kp_grow (g : ∀ a o, H a = some o → H' a = some o) : Kp mu H mu H' := fun a o e n => ⟨g a o e, n⟩
theorem SlAll.len : ∀ {σ : L2.St} {s : Sl} {M : List Addr}, SlAll K mu p H σ s M → σ.length = s.length
  | _, _, _, .nil => rfl
  | _, _, _, .dat h t => by simp [SlAll.len t]
  | _, _, _, .no t => by simp [SlAll.len t]
  | _, _, _, .own h d n t => by simp [SlAll.len t]
  | _, _, _, .pot e h d t => by simp [SlAll.len t]
  | _, _, _, .tab e h d f t => by simp [SlAll.len t]
  | _, _, _, .dic h n t => by simp [SlAll.len t]
theorem SlAll.get : ∀ {σ : L2.St} {s : Sl} {M : List Addr} {i : Nat} {d : PyData}, SlAll K mu p H σ s M → s[i]? = some (.dat d) → ∃ v, σ[i]? = some (some v) ∧ Dt K mu H v d
  | _, _, _, _, _, .nil, e => by simp at e
  | _, _, _, 0, _, .dat h t, e => by simp at e; subst e; exact ⟨_, rfl, h⟩
  | _, _, _, 0, _, .no t, e => by simp at e
  | _, _, _, 0, _, .own .., e => by simp at e
  | _, _, _, 0, _, .pot .., e => by simp at e
  | _, _, _, i + 1, _, .dat h t, e => by simpa using SlAll.get (i := i) t (by simpa using e)
  | _, _, _, i + 1, _, .no t, e => by simpa using SlAll.get (i := i) t (by simpa using e)
  | _, _, _, i + 1, _, .own _ _ _ t, e => by simpa using SlAll.get (i := i) t (by simpa using e)
  | _, _, _, i + 1, _, .pot _ _ _ t, e => by simpa using SlAll.get (i := i) t (by simpa using e)
  | _, _, _, 0, _, .tab .., e => by simp at e
  | _, _, _, i + 1, _, .tab _ _ _ _ t, e => by simpa using SlAll.get (i := i) t (by simpa using e)
  | _, _, _, 0, _, .dic .., e => by simp at e
  | _, _, _, i + 1, _, .dic _ _ t, e => by simpa using SlAll.get (i := i) t (by simpa using e)
theorem SlAll.getPot : ∀ {σ : L2.St} {s : Sl} {M : List Addr} {i : Nat} {ds : List PyData}, SlAll K mu p H σ s M → s[i]? = some (.pot ds) → ∃ a xs, σ[i]? = some (some (.ref a)) ∧ p = some a ∧ H a = some (.lst xs) ∧ DtAll K mu H xs ds
  | _, _, _, _, _, .nil, e => by simp at e
  | _, _, _, 0, _, .dat h t, e => by simp at e
  | _, _, _, 0, _, .no t, e => by simp at e
  | _, _, _, 0, _, .own .., e => by simp at e
  | _, _, _, 0, _, .pot h1 h2 h3 t, e => by simp at e; subst e; exact ⟨_, _, rfl, h1, h2, h3⟩
  | _, _, _, i + 1, _, .dat h t, e => by simpa using SlAll.getPot (i := i) t (by simpa using e)
  | _, _, _, i + 1, _, .no t, e => by simpa using SlAll.getPot (i := i) t (by simpa using e)
  | _, _, _, i + 1, _, .own _ _ _ t, e => by simpa using SlAll.getPot (i := i) t (by simpa using e)
  | _, _, _, i + 1, _, .pot _ _ _ t, e => by simpa using SlAll.getPot (i := i) t (by simpa using e)
  | _, _, _, 0, _, .tab .., e => by simp at e
  | _, _, _, i + 1, _, .tab _ _ _ _ t, e => by simpa using SlAll.getPot (i := i) t (by simpa using e)
  | _, _, _, 0, _, .dic .., e => by simp at e
  | _, _, _, i + 1, _, .dic _ _ t, e => by simpa using SlAll.getPot (i := i) t (by simpa using e)
theorem SlAll.getOwn : ∀ {σ : L2.St} {s : Sl} {M : List Addr} {i : Nat} {ds : List PyData}, SlAll K mu p H σ s M → s[i]? = some (.own ds) → ∃ a xs, σ[i]? = some (some (.ref a)) ∧ a ∈ M ∧ H a = some (.lst xs) ∧ DtAll K mu H xs ds
  | _, _, _, _, _, .nil, e => by simp at e
  | _, _, _, 0, _, .dat h t, e => by simp at e
  | _, _, _, 0, _, .no t, e => by simp at e
  | _, _, _, 0, _, .own h2 h3 n t, e => by simp at e; subst e; exact ⟨_, _, rfl, List.mem_cons_self, h2, h3⟩
  | _, _, _, 0, _, .pot .., e => by simp at e
  | _, _, _, i + 1, _, .dat h t, e => by simpa using SlAll.getOwn (i := i) t (by simpa using e)
  | _, _, _, i + 1, _, .no t, e => by simpa using SlAll.getOwn (i := i) t (by simpa using e)
  | _, _, _, i + 1, _, .own _ _ _ t, e => by
    obtain ⟨a, xs, h1, h2, h3⟩ := SlAll.getOwn (i := i) t (by simpa using e)
    exact ⟨a, xs, by simpa using h1, List.mem_cons_of_mem _ h2, h3⟩
  | _, _, _, i + 1, _, .pot _ _ _ t, e => by simpa using SlAll.getOwn (i := i) t (by simpa using e)
  | _, _, _, 0, _, .tab .., e => by simp at e
  | _, _, _, i + 1, _, .tab _ _ _ _ t, e => by simpa using SlAll.getOwn (i := i) t (by simpa using e)
  | _, _, _, 0, _, .dic .., e => by simp at e
  | _, _, _, i + 1, _, .dic _ _ t, e => by
    obtain ⟨a, xs, h1, h2, h3⟩ := SlAll.getOwn (i := i) t (by simpa using e)
    exact ⟨a, xs, by simpa using h1, List.mem_cons_of_mem _ h2, h3⟩
theorem SlAll.getDic : ∀ {σ : L2.St} {s : Sl} {M : List Addr} {i : Nat} {c : Ct}, SlAll K mu p H σ s M → s[i]? = some (.dic c) → ∃ a, σ[i]? = some (some (.ref a)) ∧ a ∈ M ∧ CtOk K mu H a c
  | _, _, _, _, _, .nil, e => by simp at e
  | _, _, _, 0, _, .dat h t, e => by simp at e
  | _, _, _, 0, _, .no t, e => by simp at e
  | _, _, _, 0, _, .own .., e => by simp at e
  | _, _, _, 0, _, .pot .., e => by simp at e
  | _, _, _, 0, _, .tab .., e => by simp at e
  | _, _, _, 0, _, .dic h n t, e => by simp at e; subst e; exact ⟨_, rfl, List.mem_cons_self, h⟩
  | _, _, _, i + 1, _, .dat h t, e => by simpa using SlAll.getDic (i := i) t (by simpa using e)
  | _, _, _, i + 1, _, .no t, e => by simpa using SlAll.getDic (i := i) t (by simpa using e)
  | _, _, _, i + 1, _, .own _ _ _ t, e => by
    obtain ⟨a, h1, h2, h3⟩ := SlAll.getDic (i := i) t (by simpa using e)
    exact ⟨a, by simpa using h1, List.mem_cons_of_mem _ h2, h3⟩
  | _, _, _, i + 1, _, .pot _ _ _ t, e => by simpa using SlAll.getDic (i := i) t (by simpa using e)
  | _, _, _, i + 1, _, .tab _ _ _ _ t, e => by simpa using SlAll.getDic (i := i) t (by simpa using e)
  | _, _, _, i + 1, _, .dic _ _ t, e => by
    obtain ⟨a, h1, h2, h3⟩ := SlAll.getDic (i := i) t (by simpa using e)
    exact ⟨a, by simpa using h1, List.mem_cons_of_mem _ h2, h3⟩
/-- a wider or other set of what may be written, where what is read stays -/
theorem SlAll.kp (k : Kp mu H mu' H') (ho : ∀ a o, a ∈ M → H a = some o → H' a = some o) (hp : ∀ a o, p = some a → H a = some o → H' a = some o) : ∀ {σ : L2.St} {s : Sl} {M2 : List Addr}, (∀ a ∈ M2, a ∈ M) → SlAll K mu p H σ s M2 → SlAll K mu' p H' σ s M2
  | _, _, _, _, .nil => .nil
  | _, _, _, hs, .dat h t => .dat (h.mono k) (SlAll.kp k ho hp hs t)
  | _, _, _, hs, .no t => .no (SlAll.kp k ho hp hs t)
  | _, _, _, hs, .own h d n t => .own (ho _ _ (hs _ List.mem_cons_self) h) (d.mono k) n (SlAll.kp k ho hp (fun a h => hs a (List.mem_cons_of_mem _ h)) t)
  | _, _, _, hs, .pot e h d t => .pot e (hp _ _ e h) (d.mono k) (SlAll.kp k ho hp hs t)
  | _, _, _, hs, .tab e h d f t => .tab e (hp _ _ e h) d (fun pos cv z => let ⟨c, h1, h2, h3⟩ := f pos cv z; ⟨c, h1, (k _ _ h2 h3).1, (k _ _ h2 h3).2⟩) (SlAll.kp k ho hp hs t)
  | _, _, _, hs, .dic h n t => .dic (h.mono k fun o => ho _ o (hs _ List.mem_cons_self)) n (SlAll.kp k ho hp (fun a h => hs a (List.mem_cons_of_mem _ h)) t)
/-- a name is given data -/
theorem SlAll.setDat {v : V} {d : PyData} (hv : Dt K mu H v d) : ∀ {σ : L2.St} {s : Sl} {M : List Addr} (i : Nat), SlAll K mu p H σ s M → ∃ M', (∀ a ∈ M', a ∈ M) ∧ SlAll K mu p H (σ.set i (some v)) (s.set i (.dat d)) M'
  | _, _, _, _, .nil => ⟨[], fun _ h => h, .nil⟩
  | _, _, _, 0, .dat h t => ⟨_, fun _ h => h, .dat hv t⟩
  | _, _, _, 0, .no t => ⟨_, fun _ h => h, .dat hv t⟩
  | _, _, _, 0, .own h d n t => ⟨_, fun _ h => List.mem_cons_of_mem _ h, .dat hv t⟩
  | _, _, _, 0, .pot e h d t => ⟨_, fun _ h => h, .dat hv t⟩
  | _, _, _, 0, .tab e h d f t => ⟨_, fun _ h => h, .dat hv t⟩
  | _, _, _, i + 1, .dat h t => let ⟨M', a, b⟩ := SlAll.setDat hv i t; ⟨M', a, .dat h b⟩
  | _, _, _, i + 1, .no t => let ⟨M', a, b⟩ := SlAll.setDat hv i t; ⟨M', a, .no b⟩
  | _, _, _, i + 1, .own h d n t => let ⟨M', a, b⟩ := SlAll.setDat hv i t; ⟨_ :: M', fun c hc => by
      rcases List.mem_cons.mp hc with e | e
      · rw [e]; exact List.mem_cons_self
      · exact List.mem_cons_of_mem _ (a c e), .own h d (fun hc => n (a _ hc)) b⟩
  | _, _, _, i + 1, .pot e h d t => let ⟨M', a, b⟩ := SlAll.setDat hv i t; ⟨M', a, .pot e h d b⟩
  | _, _, _, i + 1, .tab e h d f t => let ⟨M', a, b⟩ := SlAll.setDat hv i t; ⟨M', a, .tab e h d f b⟩
  | _, _, _, 0, .dic h n t => ⟨_, fun _ h => List.mem_cons_of_mem _ h, .dat hv t⟩
  | _, _, _, i + 1, .dic h n t => let ⟨M', a, b⟩ := SlAll.setDat hv i t; ⟨_ :: M', fun c hc => by
      rcases List.mem_cons.mp hc with e | e
      · rw [e]; exact List.mem_cons_self
      · exact List.mem_cons_of_mem _ (a c e), .dic h (fun hc => n (a _ hc)) b⟩
theorem Rel.setDat {v : V} {d : PyData} (r : Rel K Z M σ H s) (hv : Dt K (Mu Z M) H v d) (i : Nat) : ∃ M', (∀ a ∈ M', a ∈ M) ∧ Rel K Z M' (σ.set i (some v)) H (s.set i (.dat d)) ∧ Kq Z M H M' H := by
  obtain ⟨M', h1, h2⟩ := r.sl.setDat hv i
  have k : Kp (Mu Z M) H (Mu Z M') H := fun a o e n => ⟨e, fun q => n (q.elim .inl fun z => .inr (z.elim .inl fun z => .inr (h1 a z)))⟩
  exact ⟨M', h1, ⟨r.base, fun a h => r.fr a (h1 a h), r.mz, r.pt, h2.kp k (M := M') (fun _ _ _ e => e) (fun _ _ _ e => e) (fun _ h => h)⟩, fun a o e _ n => ⟨e, fun z => n (h1 a z)⟩⟩
end
end Dl

namespace Dl
open PySem PySem.Spec PyProof.Rows L2

/-! ### meanings -/
abbrev DE := Sl → Option (PyData × Sl)
abbrev DT := Sl → Option (Bool × Sl)
abbrev DA := Sl → Option (List PyData × Sl)
inductive Fl where
  | nx (s : Sl) | rt (d : PyData) (s : Sl) | bk (s : Sl) | ct (s : Sl)
abbrev DS := Sl → Option Fl

def lft (K : PySem.W.Frag) (Z : Par) (f : DE) : TE := fun σ H Q => ∃ M s d s', Rel K Z M σ H s ∧ f s = some (d, s') ∧ ∀ v H', Kq Z M H M H' → Rel K Z M σ H' s' → Dt K (Mu Z M) H' v d → Q v H'
def lfT (K : PySem.W.Frag) (Z : Par) (f : DT) : TT := fun σ H Q => ∃ M s d s', Rel K Z M σ H s ∧ f s = some (d, s') ∧ ∀ H', Kq Z M H M H' → Rel K Z M σ H' s' → Q d H'
def lfA (K : PySem.W.Frag) (Z : Par) (f : DA) : TA := fun σ H Q => ∃ M s d s', Rel K Z M σ H s ∧ f s = some (d, s') ∧ ∀ vs H', Kq Z M H M H' → Rel K Z M σ H' s' → DtAll K (Mu Z M) H' vs d → Q vs H'
/-- what a statement leaves -/
def FlOk (K : PySem.W.Frag) (Z : Par) (M0 : List Addr) (H0 : Hp) (D : Ends) : Fl → Prop
  | .nx s => ∀ M σ H, Kq Z M0 H0 M H → Rel K Z M σ H s → D.nx σ H
  | .rt d s => ∀ M σ H v, Kq Z M0 H0 M H → Rel K Z M σ H s → Dt K (Mu Z M) H v d → D.rt v H
  | .bk s => ∀ M σ H, Kq Z M0 H0 M H → Rel K Z M σ H s → D.bk σ H
  | .ct s => ∀ M σ H, Kq Z M0 H0 M H → Rel K Z M σ H s → D.ct σ H
def lfS (K : PySem.W.Frag) (Z : Par) (f : DS) : TS := fun D σ H => ∃ M s fl, Rel K Z M σ H s ∧ f s = some fl ∧ FlOk K Z M H D fl

theorem PEimp {X : Cx} {e : Expr} {t t' : TE} (h : PE X e t) (i : ∀ σ H Q, t' σ H Q → t σ H Q) : PE X e t' := ⟨fun pins s σ H Q I q => h.run pins s σ H Q I (i σ H Q q)⟩
theorem PTimp {X : Cx} {e : Expr} {t t' : TT} (h : PT X e t) (i : ∀ σ H Q, t' σ H Q → t σ H Q) : PT X e t' := ⟨fun pins s σ H Q I q => h.run pins s σ H Q I (i σ H Q q)⟩
theorem PWimp {X : Cx} {e : Expr} {t t' : TT} (h : PW X e t) (i : ∀ σ H Q, t' σ H Q → t σ H Q) : PW X e t' := ⟨fun w pins s σ H Q I q => h.run w pins s σ H Q I (i σ H Q q)⟩
theorem PAimp {X : Cx} {e : List Expr} {t t' : TA} (h : PA X e t) (i : ∀ σ H Q, t' σ H Q → t σ H Q) : PA X e t' := ⟨fun pos pins s σ H Q I q => h.run pos pins s σ H Q I (i σ H Q q)⟩
theorem PSimp {X : Cx} {e : Stmt} {t t' : TS} (h : PS X e t) (i : ∀ D σ H, t' D σ H → t D σ H) : PS X e t' := ⟨fun pins s σ H D I q => h.run pins s σ H D I (i D σ H q)⟩
theorem PSsimp {X : Cx} {e : List Stmt} {t t' : TS} (h : PSs X e t) (i : ∀ D σ H, t' D σ H → t D σ H) : PSs X e t' := ⟨fun pins s σ H D I q => h.run pins s σ H D I (i D σ H q)⟩

/-! ### names, constants -/
def dVar (i : Nat) : DE := fun s => match s[i]? with
  | some (.dat d) => some (d, s)
  | _ => none
def dC (d : PyData) : DE := fun s => some (d, s)
theorem dVar_some {i : Nat} {s s' : Sl} {d : PyData} (h : dVar i s = some (d, s')) : s[i]? = some (.dat d) ∧ s' = s := by
  unfold dVar at h
  split at h
  · rename_i d' e
    simp only [Option.some.injEq, Prod.mk.injEq] at h
    obtain ⟨rfl, rfl⟩ := h
    exact ⟨e, rfl⟩
  · cases h

section
variable {X : Cx} {Z : Par} {a b e : Expr} {es : List Expr} {pos : Pos} {fa fb fc : DE}
theorem dv (i : Nat) {x : Str} {pos : Pos} (hN : X.N[i]? = some x := by rfl) (hv : Vis X.env.scope x := by first | exact Or.inl rfl | exact Or.inr (Or.inl rfl) | exact Or.inr (Or.inr rfl)) (hd : (x == ("__debug__" : Str)) = false := by decide)
    (hcd : (x == ("__classdict__" : Str)) = false := by decide) : PE X (.Name x pos) (lft X.K Z (dVar i)) := PEimp (pe_var hN hv hd hcd) fun σ H Q h => by
  obtain ⟨M, s, d, s', r, hf, k⟩ := h
  obtain ⟨e, rfl⟩ := dVar_some hf
  obtain ⟨v, h1, h2⟩ := r.sl.get e
  exact ⟨v, h1, k v H (Kq.refl _ _ _) r h2⟩
theorem lft_c {v : V} {d : PyData} (hv : ∀ mu H, Dt X.K mu H v d) {t : TE} (ht : t = tC v) (he : PE X e t) : PE X e (lft X.K Z (dC d)) := PEimp (by rw [ht] at he; exact he) fun σ H Q h => by
  obtain ⟨M, s, d', s', r, hf, k⟩ := h
  cases hf
  exact k v H (Kq.refl _ _ _) r (hv _ _)
theorem di {i : Int} {j pos} : PE X (.Constant (.int i) j pos) (lft X.K Z (dC (.int i))) := lft_c (fun _ _ => .int i) rfl pe_int
theorem ds {x : Str} {j pos} : PE X (.Constant (.str x) j pos) (lft X.K Z (dC (.str x))) := lft_c (fun _ _ => .str x) rfl pe_str
theorem db {b : Bool} {j pos} : PE X (.Constant (.bool b) j pos) (lft X.K Z (dC (.bool b))) := lft_c (fun _ _ => .bl b) rfl pe_bl
theorem dn {j pos} : PE X (.Constant .none j pos) (lft X.K Z (dC .none)) := lft_c (fun _ _ => .non) rfl pe_non
/-- a module's constant -/
theorem dg {x : Str} {v : V} {u : Value} {d : PyData} (hg : Gl X x) (hm : X.mg x = some u) (r : RelV v u) (hv : ∀ mu H, Dt X.K mu H v d) (hd : (x == ("__debug__" : Str)) = false := by decide) : PE X (.Name x pos) (lft X.K Z (dC d)) := lft_c hv rfl (pe_glob hg hm r hd)

/-! ### operators by trees -/
def dOp (g : PyData → PyData → Option PyData) (fa fb : DE) : DE := fun s => (fa s).bind fun p => (fb p.2).bind fun q => (g p.1 q.1).map fun d => (d, q.2)
def dUn (g : PyData → Option PyData) (fa : DE) : DE := fun s => (fa s).bind fun p => (g p.1).map fun d => (d, p.2)
theorem dOp_some {g : PyData → PyData → Option PyData} {s s' : Sl} {d : PyData} (h : dOp g fa fb s = some (d, s')) : ∃ d1 s1 d2, fa s = some (d1, s1) ∧ fb s1 = some (d2, s') ∧ g d1 d2 = some d := by
  unfold dOp at h
  simp only [Option.bind_eq_some_iff, Option.map_eq_some_iff] at h
  obtain ⟨⟨d1, s1⟩, h1, ⟨d2, s2⟩, h2, d', h3, h4⟩ := h
  cases h4
  exact ⟨d1, s1, d2, h1, h2, h3⟩
theorem dUn_some {g : PyData → Option PyData} {s s' : Sl} {d : PyData} (h : dUn g fa s = some (d, s')) : ∃ d1, fa s = some (d1, s') ∧ g d1 = some d := by
  unfold dUn at h
  simp only [Option.bind_eq_some_iff, Option.map_eq_some_iff] at h
  obtain ⟨⟨d1, s1⟩, h1, d', h3, h4⟩ := h
  cases h4
  exact ⟨d1, h1, h3⟩
/-- a rule by values does what g says of trees -/
def OpOk (K : PySem.W.Frag) (r : R2) (g : PyData → PyData → Option PyData) : Prop := ∀ (mu : Addr → Prop) (H : Hp) (x y : V) (d1 d2 d : PyData) (Q : VK), (∀ a, mu a → ∃ o, H a = some o) → Dt K mu H x d1 → Dt K mu H y d2 → g d1 d2 = some d →
  (∀ v H', (∀ a o, H a = some o → H' a = some o) → Dt K mu H' v d → Q v H') → r x y H Q
def UnOk (K : PySem.W.Frag) (r : V → Hp → VK → Prop) (g : PyData → Option PyData) : Prop := ∀ (mu : Addr → Prop) (H : Hp) (x : V) (d1 d : PyData) (Q : VK), (∀ a, mu a → ∃ o, H a = some o) → Dt K mu H x d1 → g d1 = some d →
  (∀ v H', (∀ a o, H a = some o → H' a = some o) → Dt K mu H' v d → Q v H') → r x H Q
def CallOk (K : PySem.W.Frag) (r : List V → Hp → VK → Prop) (g : List PyData → Option PyData) : Prop := ∀ (mu : Addr → Prop) (H : Hp) (xs : List V) (ds : List PyData) (d : PyData) (Q : VK), (∀ a, mu a → ∃ o, H a = some o) → DtAll K mu H xs ds → g ds = some d →
  (∀ v H', (∀ a o, H a = some o → H' a = some o) → Dt K mu H' v d → Q v H') → r xs H Q
theorem lift_op {r : R2} {g : PyData → PyData → Option PyData} (ok : OpOk X.K r g) {σ : L2.St} {H : Hp} {Q : VK} (h : lft X.K Z (dOp g fa fb) σ H Q) : tOp r (lft X.K Z fa) (lft X.K Z fb) σ H Q := by
  obtain ⟨M, s, d, s', rl, hf, k⟩ := h
  obtain ⟨d1, s1, d2, h1, h2, h3⟩ := dOp_some hf
  refine ⟨M, s, d1, s1, rl, h1, fun x H1 k1 r1 t1 => ⟨M, s1, d2, s', r1, h2, fun y H2 k2 r2 t2 => ?_⟩⟩
  refine ok (Mu Z M) H2 x y d1 d2 d Q r2.muT (t1.mono k2.kp) t2 h3 fun v H3 g3 t3 => ?_
  exact k v H3 (k1.trans (k2.trans (kq_grow g3))) (r2.grow g3) t3
theorem lift_un {r : V → Hp → VK → Prop} {g : PyData → Option PyData} (ok : UnOk X.K r g) {σ : L2.St} {H : Hp} {Q : VK} (h : lft X.K Z (dUn g fa) σ H Q) : tUn r (lft X.K Z fa) σ H Q := by
  obtain ⟨M, s, d, s', rl, hf, k⟩ := h
  obtain ⟨d1, h1, h3⟩ := dUn_some hf
  refine ⟨M, s, d1, s', rl, h1, fun x H1 k1 r1 t1 => ?_⟩
  refine ok (Mu Z M) H1 x d1 d Q r1.muT t1 h3 fun v H3 g3 t3 => ?_
  exact k v H3 (k1.trans (kq_grow g3)) (r1.grow g3) t3
theorem do_ {op : Operator} {r : R2} {g : PyData → PyData → Option PyData} (ho : OpR X (binaryOp op) r) (ok : OpOk X.K r g) (ha : PE X a (lft X.K Z fa)) (hb : PE X b (lft X.K Z fb)) : PE X (.BinOp a op b pos) (lft X.K Z (dOp g fa fb)) :=
  PEimp (pe_op ho ha hb) fun _ _ _ h => lift_op ok h
theorem du {op : UnaryOp} {r : V → Hp → VK → Prop} {g : PyData → Option PyData} (ho : UnR X (unaryOp op) r) (ok : UnOk X.K r g) (ha : PE X a (lft X.K Z fa)) : PE X (.UnaryOp op a pos) (lft X.K Z (dUn g fa)) :=
  PEimp (pe_un ho ha) fun _ _ _ h => lift_un ok h
theorem dcmp {op : CmpOp} {r : R2} {g : PyData → PyData → Option PyData} (ho : OpR X (compareOp op) r) (ok : OpOk X.K r g) (ha : PE X a (lft X.K Z fa)) (hb : PE X b (lft X.K Z fb)) (hm : behindInMarks op b = false) : PE X (.Compare a [op] [b] pos) (lft X.K Z (dOp g fa fb)) :=
  PEimp (pe_cmpR ho ha hb hm) fun _ _ _ h => lift_op ok h
theorem dix {r : R2} {g : PyData → PyData → Option PyData} (ho : IxR X r) (ok : OpOk X.K r g) (ha : PE X a (lft X.K Z fa)) (hb : PE X b (lft X.K Z fb)) (hs : PlainIx b := by exact fun _ _ => rfl) : PE X (.Subscript a b pos) (lft X.K Z (dOp g fa fb)) :=
  PEimp (pe_ix ho ha hb hs) fun _ _ _ h => lift_op ok h

/-! ### tests -/
def dTst (f : DE) : DT := fun s => (f s).bind fun p => match p.1 with
  | .bool b => some (b, p.2)
  | _ => none
theorem dTst_some {f : DE} {s s' : Sl} {b : Bool} (h : dTst f s = some (b, s')) : f s = some (.bool b, s') := by
  unfold dTst at h
  simp only [Option.bind_eq_some_iff] at h
  obtain ⟨⟨d1, s1⟩, h1, h2⟩ := h
  dsimp only at h2
  split at h2
  · cases h2; exact h1
  · cases h2
theorem lift_tB {f : DE} {σ : L2.St} {H : Hp} {Q : Bool → Hp → Prop} (h : lfT X.K Z (dTst f) σ H Q) : tB (lft X.K Z f) σ H Q := by
  obtain ⟨M, s, b, s', rl, hf, k⟩ := h
  exact ⟨M, s, .bool b, s', rl, dTst_some hf, fun v H' k1 r1 t1 => ⟨b, t1.bool, k H' k1 r1⟩⟩
/-- an expression that gives a bool, as a test -/
theorem dt (h : PE X e (lft X.K Z fa)) (he : ∀ whole, isTrue e X.env whole = (do let v ← whole; standAt e.pos; holding [v] (truthy v)) := by intro _; rfl) : PT X e (lfT X.K Z (dTst fa)) := PTimp (pt_val h he) fun _ _ _ h => lift_tB h
theorem dtcmp {op : CmpOp} {r : R2} {g : PyData → PyData → Option PyData} (ho : OpR X (compareOp op) r) (ok : OpOk X.K r g) (ha : PE X a (lft X.K Z fa)) (hb : PE X b (lft X.K Z fb)) (hm : behindInMarks op b = false) : PT X (.Compare a [op] [b] pos) (lfT X.K Z (dTst (dOp g fa fb))) :=
  PTimp (pt_cmpR ho ha hb hm) fun σ H Q h => by
    obtain ⟨M, s, b, s', rl, hf, k⟩ := h
    exact lift_op ok ⟨M, s, .bool b, s', rl, dTst_some hf, fun v H' k1 r1 t1 => ⟨b, t1.bool, k H' k1 r1⟩⟩
variable {ta tb : DT} {rest : List Expr}
def dAndT (f g : DT) : DT := fun s => (f s).bind fun p => if p.1 = true then g p.2 else some (false, p.2)
def dOrT (f g : DT) : DT := fun s => (f s).bind fun p => if p.1 = true then some (true, p.2) else g p.2
def dNotT (f : DT) : DT := fun s => (f s).map fun p => (!p.1, p.2)
theorem dtand (ha : PT X a (lfT X.K Z ta)) (hb : PW X (.BoolOp .And (b :: rest) pos) (lfT X.K Z tb)) : PW X (.BoolOp .And (a :: b :: rest) pos) (lfT X.K Z (dAndT ta tb)) := PWimp (pw_and ha hb) fun σ H Q h => by
  obtain ⟨M, s, c, s', rl, hf, k⟩ := h
  unfold dAndT at hf
  simp only [Option.bind_eq_some_iff] at hf
  obtain ⟨⟨c1, s1⟩, h1, h2⟩ := hf
  refine ⟨M, s, c1, s1, rl, h1, fun H1 k1 r1 => ?_⟩
  cases c1 with
  | true => exact ⟨M, s1, c, s', r1, h2, fun H2 k2 r2 => k H2 (k1.trans k2) r2⟩
  | false => cases h2; exact k H1 k1 r1
theorem dtor (ha : PT X a (lfT X.K Z ta)) (hb : PW X (.BoolOp .Or (b :: rest) pos) (lfT X.K Z tb)) : PW X (.BoolOp .Or (a :: b :: rest) pos) (lfT X.K Z (dOrT ta tb)) := PWimp (pw_or ha hb) fun σ H Q h => by
  obtain ⟨M, s, c, s', rl, hf, k⟩ := h
  unfold dOrT at hf
  simp only [Option.bind_eq_some_iff] at hf
  obtain ⟨⟨c1, s1⟩, h1, h2⟩ := hf
  refine ⟨M, s, c1, s1, rl, h1, fun H1 k1 r1 => ?_⟩
  cases c1 with
  | false => exact ⟨M, s1, c, s', r1, h2, fun H2 k2 r2 => k H2 (k1.trans k2) r2⟩
  | true => cases h2; exact k H1 k1 r1
theorem dtnot (ha : PT X a (lfT X.K Z ta)) : PT X (.UnaryOp .Not a pos) (lfT X.K Z (dNotT ta)) := PTimp (pt_not ha) fun σ H Q h => by
  obtain ⟨M, s, c, s', rl, hf, k⟩ := h
  unfold dNotT at hf
  simp only [Option.map_eq_some_iff] at hf
  obtain ⟨⟨c1, s1⟩, h1, h2⟩ := hf
  cases h2
  exact ⟨M, s, c1, s1, rl, h1, fun H1 k1 r1 => k H1 k1 r1⟩
/-! and, or, not as values; all but the last bools -/
def dAnd (f g : DE) : DE := fun s => (dTst f s).bind fun p => if p.1 = true then g p.2 else some (.bool false, p.2)
def dOr (f g : DE) : DE := fun s => (dTst f s).bind fun p => if p.1 = true then some (.bool true, p.2) else g p.2
def dNot (f : DE) : DE := fun s => (dTst f s).map fun p => (.bool (!p.1), p.2)
theorem dand (ha : PE X a (lft X.K Z fa)) (hb : PE X (.BoolOp .And (b :: rest) pos) (lft X.K Z fb)) : PE X (.BoolOp .And (a :: b :: rest) pos) (lft X.K Z (dAnd fa fb)) := PEimp (pe_and ha hb) fun σ H Q h => by
  obtain ⟨M, s, c, s', rl, hf, k⟩ := h
  unfold dAnd at hf
  simp only [Option.bind_eq_some_iff] at hf
  obtain ⟨⟨c1, s1⟩, h1, h2⟩ := hf
  refine ⟨M, s, .bool c1, s1, rl, dTst_some h1, fun v H1 k1 r1 t1 => ⟨c1, t1.bool, ?_⟩⟩
  cases c1 with
  | true => exact ⟨M, s1, c, s', r1, h2, fun v2 H2 k2 r2 t2 => k v2 H2 (k1.trans k2) r2 t2⟩
  | false => cases h2; exact k _ H1 k1 r1 (.bl false)
theorem dor (ha : PE X a (lft X.K Z fa)) (hb : PE X (.BoolOp .Or (b :: rest) pos) (lft X.K Z fb)) : PE X (.BoolOp .Or (a :: b :: rest) pos) (lft X.K Z (dOr fa fb)) := PEimp (pe_or ha hb) fun σ H Q h => by
  obtain ⟨M, s, c, s', rl, hf, k⟩ := h
  unfold dOr at hf
  simp only [Option.bind_eq_some_iff] at hf
  obtain ⟨⟨c1, s1⟩, h1, h2⟩ := hf
  refine ⟨M, s, .bool c1, s1, rl, dTst_some h1, fun v H1 k1 r1 t1 => ⟨c1, t1.bool, ?_⟩⟩
  cases c1 with
  | false => exact ⟨M, s1, c, s', r1, h2, fun v2 H2 k2 r2 t2 => k v2 H2 (k1.trans k2) r2 t2⟩
  | true => cases h2; exact k _ H1 k1 r1 (.bl true)
theorem dnot (ha : PE X a (lft X.K Z fa)) : PE X (.UnaryOp .Not a pos) (lft X.K Z (dNot fa)) := PEimp (pe_not ha) fun σ H Q h => by
  obtain ⟨M, s, c, s', rl, hf, k⟩ := h
  unfold dNot at hf
  simp only [Option.map_eq_some_iff] at hf
  obtain ⟨⟨c1, s1⟩, h1, h2⟩ := hf
  cases h2
  exact ⟨M, s, .bool c1, s1, rl, dTst_some h1, fun v H1 k1 r1 t1 => ⟨c1, t1.bool, k _ H1 k1 r1 (.bl _)⟩⟩
def dIf (t : DT) (f g : DE) : DE := fun s => (t s).bind fun p => if p.1 = true then f p.2 else g p.2
theorem dif_ {c : Expr} (hc : PT X c (lfT X.K Z ta)) (ha : PE X a (lft X.K Z fa)) (hb : PE X b (lft X.K Z fb)) : PE X (.IfExp c a b pos) (lft X.K Z (dIf ta fa fb)) := PEimp (pe_ifExp hc ha hb) fun σ H Q h => by
  obtain ⟨M, s, d, s', rl, hf, k⟩ := h
  unfold dIf at hf
  simp only [Option.bind_eq_some_iff] at hf
  obtain ⟨⟨c1, s1⟩, h1, h2⟩ := hf
  refine ⟨M, s, c1, s1, rl, h1, fun H1 k1 r1 => ?_⟩
  cases c1 with
  | false => exact ⟨M, s1, d, s', r1, h2, fun v2 H2 k2 r2 t2 => k v2 H2 (k1.trans k2) r2 t2⟩
  | true => exact ⟨M, s1, d, s', r1, h2, fun v2 H2 k2 r2 t2 => k v2 H2 (k1.trans k2) r2 t2⟩
/-- a op b op' c -/
def dChain (g g' : PyData → PyData → Option PyData) (fa fb fc : DE) : DE := fun s => (fa s).bind fun p => (fb p.2).bind fun q => (g p.1 q.1).bind fun c => match c with
  | .bool true => (fc q.2).bind fun w => (g' q.1 w.1).map fun d => (d, w.2)
  | .bool false => some (.bool false, q.2)
  | _ => none
theorem lift_chain {r r' : R2} {g g' : PyData → PyData → Option PyData} (ok : OpOk X.K r g) (ok' : OpOk X.K r' g') {σ : L2.St} {H : Hp} {Q : VK} (h : lft X.K Z (dChain g g' fa fb fc) σ H Q) : tChain r r' (lft X.K Z fa) (lft X.K Z fb) (lft X.K Z fc) σ H Q := by
  obtain ⟨M, s, d, s', rl, hf, k⟩ := h
  unfold dChain at hf
  simp only [Option.bind_eq_some_iff] at hf
  obtain ⟨⟨d1, s1⟩, h1, ⟨d2, s2⟩, h2, c, h3, h4⟩ := hf
  refine ⟨M, s, d1, s1, rl, h1, fun x H1 k1 r1 t1 => ⟨M, s1, d2, s2, r1, h2, fun y H2 k2 r2 t2 => ?_⟩⟩
  refine ok (Mu Z M) H2 x y d1 d2 c _ r2.muT (t1.mono k2.kp) t2 h3 fun v H3 g3 t3 => ?_
  have k3 : Kq Z M H2 M H3 := kq_grow g3
  split at h4
  · refine ⟨true, t3.bool, ?_⟩
    simp only [Option.bind_eq_some_iff, Option.map_eq_some_iff] at h4
    obtain ⟨⟨d3, s3⟩, h5, d4, h6, h7⟩ := h4
    cases h7
    refine iteT ⟨M, s2, d3, _, r2.grow g3, h5, fun z H4 k4 r4 t4 => ?_⟩
    refine ok' (Mu Z M) H4 y z d2 d3 _ Q r4.muT (t2.mono (k3.trans k4).kp) t4 h6 fun v H5 g5 t5 => ?_
    exact k v H5 (k1.trans (k2.trans (k3.trans (k4.trans (kq_grow g5))))) (r4.grow g5) t5
  · refine ⟨false, t3.bool, iteF ?_⟩
    cases h4
    exact k _ H3 (k1.trans (k2.trans k3)) (r2.grow g3) (.bl false)
  · cases h4
theorem dchain {op op' : CmpOp} {r r' : R2} {c : Expr} {g g' : PyData → PyData → Option PyData} (ho : OpR X (compareOp op) r) (ok : OpOk X.K r g) (ho' : OpR X (compareOp op') r') (ok' : OpOk X.K r' g') (ha : PE X a (lft X.K Z fa)) (hb : PE X b (lft X.K Z fb)) (hc : PE X c (lft X.K Z fc))
    (hm : lastMarks [op, op'] [b, c] = false := by with_unfolding_all rfl) : PE X (.Compare a [op, op'] [b, c] pos) (lft X.K Z (dChain g g' fa fb fc)) := PEimp (pe_chain ho ho' ha hb hc hm) fun _ _ _ h => lift_chain ok ok' h
theorem dtchain {op op' : CmpOp} {r r' : R2} {c : Expr} {g g' : PyData → PyData → Option PyData} (ho : OpR X (compareOp op) r) (ok : OpOk X.K r g) (ho' : OpR X (compareOp op') r') (ok' : OpOk X.K r' g') (ha : PE X a (lft X.K Z fa)) (hb : PE X b (lft X.K Z fb)) (hc : PE X c (lft X.K Z fc))
    (hm : lastMarks [op, op'] [b, c] = false := by with_unfolding_all rfl) : PT X (.Compare a [op, op'] [b, c] pos) (lfT X.K Z (dTst (dChain g g' fa fb fc))) := PTimp (pt_chain ho ho' ha hb hc hm) fun σ H Q h => by
  obtain ⟨M, s, b, s', rl, hf, k⟩ := h
  exact lift_chain ok ok' ⟨M, s, .bool b, s', rl, dTst_some hf, fun v H' k1 r1 t1 => ⟨b, t1.bool, k H' k1 r1⟩⟩

/-! ### arguments, displays, built-ins -/
def aNil : DA := fun s => some ([], s)
def aCons (f : DE) (g : DA) : DA := fun s => (f s).bind fun p => (g p.2).map fun q => (p.1 :: q.1, q.2)
theorem aCons_some {f : DE} {g : DA} {s s' : Sl} {ds : List PyData} (h : aCons f g s = some (ds, s')) : ∃ d s1 r, f s = some (d, s1) ∧ g s1 = some (r, s') ∧ ds = d :: r := by
  unfold aCons at h
  simp only [Option.bind_eq_some_iff, Option.map_eq_some_iff] at h
  obtain ⟨⟨d1, s1⟩, h1, ⟨r, s2⟩, h2, h3⟩ := h
  cases h3
  exact ⟨d1, s1, r, h1, h2, rfl⟩
variable {ga gb : DA}
theorem danil : PA X [] (lfA X.K Z aNil) := PAimp pa_nil fun σ H Q h => by
  obtain ⟨M, s, d, s', rl, hf, k⟩ := h
  cases hf
  exact k [] H (Kq.refl _ _ _) rl .nil
theorem dac (ha : PE X e (lft X.K Z fa)) (hb : PA X es (lfA X.K Z ga)) (hs : starEach (e :: es) X.env = (false, eval e X.env) :: starEach es X.env := by rfl) : PA X (e :: es) (lfA X.K Z (aCons fa ga)) := PAimp (pa_cons ha hb hs) fun σ H Q h => by
  obtain ⟨M, s, d, s', rl, hf, k⟩ := h
  obtain ⟨d1, s1, r, h1, h2, rfl⟩ := aCons_some hf
  exact ⟨M, s, d1, s1, rl, h1, fun v H1 k1 r1 t1 => ⟨M, s1, r, s', r1, h2, fun vs H2 k2 r2 t2 => k _ H2 (k1.trans k2) r2 (.cons (t1.mono k2.kp) t2)⟩⟩
def dTup (g : DA) : DE := fun s => (g s).bind fun p => if p.1.length ≤ sizeLine then some (.tuple p.1, p.2) else none
def dLst (g : DA) : DE := fun s => (g s).bind fun p => if p.1.length ≤ sizeLine then some (.list p.1, p.2) else none
def dB (g : List PyData → Option PyData) (f : DA) : DE := fun s => (f s).bind fun p => (g p.1).map fun d => (d, p.2)
theorem dTup_some {g : DA} {s s' : Sl} {d : PyData} (h : dTup g s = some (d, s')) : ∃ ds, g s = some (ds, s') ∧ ds.length ≤ sizeLine ∧ d = .tuple ds := by
  unfold dTup at h
  simp only [Option.bind_eq_some_iff] at h
  obtain ⟨⟨d1, s1⟩, h1, h2⟩ := h
  dsimp only at h2
  split at h2
  · cases h2; exact ⟨d1, h1, by assumption, rfl⟩
  · cases h2
theorem dLst_some {g : DA} {s s' : Sl} {d : PyData} (h : dLst g s = some (d, s')) : ∃ ds, g s = some (ds, s') ∧ ds.length ≤ sizeLine ∧ d = .list ds := by
  unfold dLst at h
  simp only [Option.bind_eq_some_iff] at h
  obtain ⟨⟨d1, s1⟩, h1, h2⟩ := h
  dsimp only at h2
  split at h2
  · cases h2; exact ⟨d1, h1, by assumption, rfl⟩
  · cases h2
theorem grow_new {H : Hp} {p : Addr} {o : HO} (h : H p = none) : ∀ a u, H a = some u → (upd H p o) a = some u := fun a u e => by
  rw [upd_ne (ne_of_none e h)]; exact e
theorem nomu_new {H : Hp} {mu : Addr → Prop} {p : Addr} (hm : ∀ a, mu a → ∃ o, H a = some o) (h : H p = none) : ¬ mu p := fun q => by
  obtain ⟨o, e⟩ := hm p q
  rw [h] at e; cases e
theorem dt_newT {K : PySem.W.Frag} {H : Hp} {mu : Addr → Prop} {p : Addr} {xs : List V} {ds : List PyData} (hm : ∀ a, mu a → ∃ o, H a = some o) (h : H p = none) (t : DtAll K mu H xs ds) : Dt K mu (upd H p (.tup xs)) (.ref p) (.tuple ds) :=
  .tup upd_same (nomu_new hm h) (t.mono (kp_grow (grow_new h)))
theorem dt_newL {K : PySem.W.Frag} {H : Hp} {mu : Addr → Prop} {p : Addr} {xs : List V} {ds : List PyData} (hm : ∀ a, mu a → ∃ o, H a = some o) (h : H p = none) (t : DtAll K mu H xs ds) : Dt K mu (upd H p (.lst xs)) (.ref p) (.list ds) :=
  .lst (.inl upd_same) (nomu_new hm h) (t.mono (kp_grow (grow_new h)))
theorem dtup {x1} (h : PA X es (lfA X.K Z ga)) : PE X (.Tuple es x1 pos) (lft X.K Z (dTup ga)) := PEimp (pe_tup h) fun σ H Q h => by
  obtain ⟨M, s, d, s', rl, hf, k⟩ := h
  obtain ⟨ds, h1, hz, rfl⟩ := dTup_some hf
  refine ⟨M, s, ds, s', rl, h1, fun vs H1 k1 r1 t1 => ⟨by rw [t1.len]; exact hz, fun p hp => ?_⟩⟩
  exact k _ _ (k1.trans (kq_grow (grow_new hp))) (r1.grow (grow_new hp)) (dt_newT r1.muT hp t1)
theorem dlst (h : PA X es (lfA X.K Z ga)) : PE X (.List es pos) (lft X.K Z (dLst ga)) := PEimp (pe_lst h) fun σ H Q h => by
  obtain ⟨M, s, d, s', rl, hf, k⟩ := h
  obtain ⟨ds, h1, hz, rfl⟩ := dLst_some hf
  refine ⟨M, s, ds, s', rl, h1, fun vs H1 k1 r1 t1 => ⟨by rw [t1.len]; exact hz, fun p hp => ?_⟩⟩
  exact k _ _ (k1.trans (kq_grow (grow_new hp))) (r1.grow (grow_new hp)) (dt_newL r1.muT hp t1)
theorem ddct : PE X (.Dict [] [] pos) (lft X.K Z (dC (.dict []))) := PEimp pe_dnewK fun σ H Q h => by
  obtain ⟨M, s, d, s', rl, hf, k⟩ := h
  cases hf
  intro p hp
  exact k _ _ (kq_grow (grow_new hp)) (rl.grow (grow_new hp)) (.dct upd_same (nomu_new rl.muT hp) .nil)
theorem lift_cb {r : List V → Hp → VK → Prop} {g : List PyData → Option PyData} (ok : CallOk X.K r g) {σ : L2.St} {H : Hp} {Q : VK} (h : lft X.K Z (dB g ga) σ H Q) : tCB r (lfA X.K Z ga) σ H Q := by
  obtain ⟨M, s, d, s', rl, hf, k⟩ := h
  unfold dB at hf
  simp only [Option.bind_eq_some_iff, Option.map_eq_some_iff] at hf
  obtain ⟨⟨ds, s1⟩, h1, d', h2, h3⟩ := hf
  cases h3
  refine ⟨M, s, ds, _, rl, h1, fun vs H1 k1 r1 t1 => ?_⟩
  exact ok (Mu Z M) H1 vs ds _ Q r1.muT t1 h2 fun v H3 g3 t3 => k v H3 (k1.trans (kq_grow g3)) (r1.grow g3) t3
theorem dcb {x : Str} {p : Pos} {id : String} {r : List V → Hp → VK → Prop} {g : List PyData → Option PyData} (hc : CallR X (.builtin id) r) (ok : CallOk X.K r g) (hg : Gl X x) (hm : X.mg x = none) (hv : bootBuiltins x = some (.builtin id)) (ha : PA X (e :: es) (lfA X.K Z ga)) (hn : x ≠ "__name__" := by decide)
    (hdb : (x == ("__debug__" : Str)) = false := by decide) (he : starEach (e :: es) X.env = (false, eval e X.env) :: starEach es X.env := by rfl) (hpl : (backTo pos (starEach es X.env)).any (·.1) = false := by rfl) : PE X (.Call (.Name x p) (e :: es) [] pos) (lft X.K Z (dB g ga)) :=
  PEimp (pe_callB hc hg hm hv ha hn hdb he hpl) fun _ _ _ h => lift_cb ok h
theorem dcty {x : Str} {p : Pos} {T : String} {r : List V → Hp → VK → Prop} {g : List PyData → Option PyData} (hc : CallR X (.type T) r) (ok : CallOk X.K r g) (hg : Gl X x) (hm : X.mg x = none) (hv : bootBuiltins x = some (.type T)) (ha : PA X (e :: es) (lfA X.K Z ga)) (hn : x ≠ "__name__" := by decide)
    (hdb : (x == ("__debug__" : Str)) = false := by decide) (he : starEach (e :: es) X.env = (false, eval e X.env) :: starEach es X.env := by rfl) (hpl : (backTo pos (starEach es X.env)).any (·.1) = false := by rfl) : PE X (.Call (.Name x p) (e :: es) [] pos) (lft X.K Z (dB g ga)) :=
  PEimp (pe_callTy hc hg hm hv ha hn hdb he hpl) fun _ _ _ h => lift_cb ok h
end
end Dl

namespace Dl
open PySem PySem.Spec PyProof.Rows L2

/-! ### protecting one more address -/
def Par.add (Z : Par) (p : Addr) : Par := { Z with m0 := fun a => Z.m0 a ∨ a = p }
section
variable {K : PySem.W.Frag} {Z : Par} {M M' : List Addr} {σ : L2.St} {H H' : Hp} {s s' : Sl} {p : Addr}
theorem mu_add {a : Addr} : Mu (Z.add p) M a ↔ Mu Z M a ∨ a = p := by
  unfold Mu Par.add
  constructor
  · rintro ((h | h) | h | h)
    · exact .inl (.inl h)
    · exact .inr h
    · exact .inl (.inr (.inl h))
    · exact .inl (.inr (.inr h))
  · rintro ((h | h | h) | h)
    · exact .inl (.inl h)
    · exact .inr (.inl h)
    · exact .inr (.inr h)
    · exact .inl (.inr h)
theorem mu_cons {a : Addr} : Mu Z (p :: M) a ↔ Mu Z M a ∨ a = p := by
  unfold Mu
  simp only [List.mem_cons]
  constructor
  · rintro (h | h | h | h)
    · exact .inl (.inl h)
    · exact .inl (.inr (.inl h))
    · exact .inr h
    · exact .inl (.inr (.inr h))
  · rintro ((h | h | h) | h)
    · exact .inl h
    · exact .inr (.inl h)
    · exact .inr (.inr (.inr h))
    · exact .inr (.inr (.inl h))
/-- a new object is laid and protected -/
theorem Rel.addNew (r : Rel K Z M σ H s) (hp : H p = none) (o : HO) : Rel K (Z.add p) M σ (upd H p o) s := by
  have g := grow_new (o := o) hp
  have k : Kp (Mu Z M) H (Mu (Z.add p) M) (upd H p o) := fun a u e n => ⟨g a u e, fun q => (mu_add.mp q).elim n (ne_of_none e hp)⟩
  refine ⟨fun a u e n => g a u (r.base a u e n), fun a h => ?_, fun a h => ?_, fun a h => let ⟨u, e⟩ := r.pt a h; ⟨u, g a u e⟩, ?_⟩
  · obtain ⟨h1, h2, h3, u, e⟩ := r.fr a h
    exact ⟨h1, h2, fun q => q.elim h3 (ne_of_none e hp), u, g a u e⟩
  · rcases h with h | h
    · obtain ⟨u, e⟩ := r.mz a h
      exact ⟨u, g a u e⟩
    · rw [h]; exact ⟨o, upd_same⟩
  · exact r.sl.kp k (M := M) (fun a xs _ e => g _ _ e) (fun a xs _ e => g _ _ e) (fun _ h => h)
theorem kp_addNew (hp : H p = none) (o : HO) : Kp (Mu Z M) H (Mu (Z.add p) M) (upd H p o) := fun a u e n => ⟨grow_new hp a u e, fun q => (mu_add.mp q).elim n (ne_of_none e hp)⟩
theorem kp_drop : Kp (Mu (Z.add p) M) H (Mu Z M) H := fun a u e n => ⟨e, fun q => n (mu_add.mpr (.inl q))⟩
theorem Rel.unadd (r : Rel K (Z.add p) M σ H s) : Rel K Z M σ H s :=
  ⟨r.base, fun a h => let ⟨h1, h2, h3, h4⟩ := r.fr a h; ⟨h1, h2, fun q => h3 (.inl q), h4⟩, fun a h => r.mz a (.inl h), r.pt, r.sl.kp kp_drop (M := M) (fun _ _ _ e => e) (fun _ _ _ e => e) (fun _ h => h)⟩
/-- the protected object is written -/
theorem Rel.wrAdd (r : Rel K (Z.add p) M σ H s) (hpp : Z.p ≠ some p) (o : HO) (h0 : Z.H0 p = none) : Rel K (Z.add p) M σ (upd H p o) s := by
  have mup : Mu (Z.add p) M p := .inl (.inr rfl)
  have k : Kp (Mu (Z.add p) M) H (Mu (Z.add p) M) (upd H p o) := fun a u e n => ⟨by
    have na : a ≠ p := fun z => n (by rw [z]; exact mup)
    rw [upd_ne na]; exact e, n⟩
  have ex : ∀ a u, H a = some u → ∃ w, (upd H p o) a = some w := fun a u e => by
    by_cases h : a = p
    · rw [h]; exact ⟨o, upd_same⟩
    · exact ⟨u, by rw [upd_ne h]; exact e⟩
  refine ⟨fun a u e n => ?_, fun a h => ?_, fun a h => let ⟨u, e⟩ := r.mz a h; ex a u e, fun a h => let ⟨u, e⟩ := r.pt a h; ex a u e, ?_⟩
  · have na : a ≠ p := ne_of_none e h0
    rw [upd_ne na]
    exact r.base a u e n
  · obtain ⟨h1, h2, h3, u, e⟩ := r.fr a h
    exact ⟨h1, h2, h3, ex a u e⟩
  · refine r.sl.kp k (M := M) (fun a xs hm e => ?_) (fun a xs hq e => ?_) (fun _ h => h)
    · have na : a ≠ p := fun z => (r.fr a hm).2.2.1 (.inr z)
      rw [upd_ne na]; exact e
    · have na : a ≠ p := fun z => hpp (z ▸ hq)
      rw [upd_ne na]; exact e
/-- a protected new list becomes a name's own -/
theorem SlAll.setOwn {mu : Addr → Prop} {q : Option Addr} {a : Addr} {xs : List V} {ds : List PyData} (h1 : H a = some (.lst xs)) (h2 : DtAll K mu H xs ds) {σ : L2.St} {s : Sl} {M : List Addr} (t : SlAll K mu q H σ s M) :
    ∀ (i : Nat), i < s.length → a ∉ M → ∃ M', (∀ b ∈ M', b ∈ M ∨ b = a) ∧ SlAll K mu q H (σ.set i (some (.ref a))) (s.set i (.own ds)) M' := by
  induction t with
  | nil => intro i hi _; exact absurd hi (Nat.not_lt_zero _)
  | dat h t ih =>
    intro i hi n
    cases i with
    | zero => exact ⟨_, fun b hb => (List.mem_cons.mp hb).elim .inr .inl, .own h1 h2 n t⟩
    | succ i =>
      obtain ⟨M', a1, b1⟩ := ih i (by simpa using hi) n
      exact ⟨M', a1, .dat h b1⟩
  | no t ih =>
    intro i hi n
    cases i with
    | zero => exact ⟨_, fun b hb => (List.mem_cons.mp hb).elim .inr .inl, .own h1 h2 n t⟩
    | succ i =>
      obtain ⟨M', a1, b1⟩ := ih i (by simpa using hi) n
      exact ⟨M', a1, .no b1⟩
  | pot e h d t ih =>
    intro i hi n
    cases i with
    | zero => exact ⟨_, fun b hb => (List.mem_cons.mp hb).elim .inr .inl, .own h1 h2 n t⟩
    | succ i =>
      obtain ⟨M', a1, b1⟩ := ih i (by simpa using hi) n
      exact ⟨M', a1, .pot e h d b1⟩
  | tab e h d f t ih =>
    intro i hi n
    cases i with
    | zero => exact ⟨_, fun b hb => (List.mem_cons.mp hb).elim .inr .inl, .own h1 h2 n t⟩
    | succ i =>
      obtain ⟨M', a1, b1⟩ := ih i (by simpa using hi) n
      exact ⟨M', a1, .tab e h d f b1⟩
  | @dic c ct σ s M h m t ih =>
    intro i hi n
    cases i with
    | zero => exact ⟨_, fun b hb => (List.mem_cons.mp hb).elim .inr fun z => .inl (List.mem_cons_of_mem _ z), .own h1 h2 (fun z => n (List.mem_cons_of_mem _ z)) t⟩
    | succ i =>
      obtain ⟨M', a1, b1⟩ := ih i (by simpa using hi) (fun z => n (List.mem_cons_of_mem _ z))
      refine ⟨c :: M', fun b hb => ?_, .dic h (fun z => (a1 _ z).elim m fun w => n (w ▸ List.mem_cons_self)) b1⟩
      rcases List.mem_cons.mp hb with z | z
      · exact .inl (z ▸ List.mem_cons_self)
      · exact (a1 b z).elim (fun w => .inl (List.mem_cons_of_mem _ w)) .inr
  | @own c ys es σ s M h d m t ih =>
    intro i hi n
    cases i with
    | zero => exact ⟨_, fun b hb => (List.mem_cons.mp hb).elim .inr fun z => .inl (List.mem_cons_of_mem _ z), .own h1 h2 (fun z => n (List.mem_cons_of_mem _ z)) t⟩
    | succ i =>
      obtain ⟨M', a1, b1⟩ := ih i (by simpa using hi) (fun z => n (List.mem_cons_of_mem _ z))
      refine ⟨c :: M', fun b hb => ?_, .own h d (fun z => (a1 _ z).elim m fun w => n (w ▸ List.mem_cons_self)) b1⟩
      rcases List.mem_cons.mp hb with z | z
      · exact .inl (z ▸ List.mem_cons_self)
      · exact (a1 b z).elim (fun w => .inl (List.mem_cons_of_mem _ w)) .inr
theorem kp_addCons : Kp (Mu (Z.add p) M) H (Mu Z (p :: M)) H := fun a u e n => ⟨e, fun q => n (mu_add.mpr (mu_cons.mp q))⟩
theorem Rel.own (r : Rel K (Z.add p) M σ H s) (h0 : Z.H0 p = none) (hpp : Z.p ≠ some p) (hm : ¬ Z.m0 p) {xs : List V} {ds : List PyData} (h1 : H p = some (.lst xs)) (h2 : DtAll K (Mu (Z.add p) M) H xs ds) (i : Nat) (hi : i < s.length) :
    ∃ M', Rel K Z M' (σ.set i (some (.ref p))) H (s.set i (.own ds)) ∧ ∀ c ∈ M', c ∈ M ∨ c = p := by
  have n : p ∉ M := fun z => (r.fr p z).2.2.1 (.inr rfl)
  obtain ⟨M', a, b⟩ := r.sl.setOwn h1 h2 i hi n
  have k : Kp (Mu (Z.add p) M) H (Mu Z M') H := fun c u e nn => ⟨e, fun q => nn (mu_add.mpr (by
    rcases q with q | q | q
    · exact .inl (.inl q)
    · exact .inl (.inr (.inl q))
    · exact (a c q).elim (fun w => .inl (.inr (.inr w))) .inr))⟩
  refine ⟨M', ⟨r.base, fun c hc => ?_, fun a h => r.mz a (.inl h), r.pt, b.kp k (M := M') (fun _ _ _ e => e) (fun _ _ _ e => e) (fun _ h => h)⟩, a⟩
  rcases a c hc with h | h
  · obtain ⟨h1, h2, h3, h4⟩ := r.fr c h
    exact ⟨h1, h2, fun q => h3 (.inl q), h4⟩
  · subst h
    exact ⟨h0, hpp, hm, _, h1⟩
end

/-! ### new lists -/
abbrev DF := Sl → Option (List PyData × Sl)
def lfF (K : PySem.W.Frag) (Z : Par) (f : DF) : TE := fun σ H Q => ∃ M s ds s', Rel K Z M σ H s ∧ f s = some (ds, s') ∧
  ∀ p xs H', H p = none → H' p = some (.lst xs) → Kq Z M H M H' → Rel K (Z.add p) M σ H' s' → DtAll K (Mu (Z.add p) M) H' xs ds → Q (.ref p) H'
def dL (f : DF) : DE := fun s => (f s).map fun p => (.list p.1, p.2)
def fLst (g : DA) : DF := fun s => (g s).bind fun p => if p.1.length ≤ sizeLine then some p else none
section
variable {X : Cx} {Z : Par} {a b e : Expr} {es : List Expr} {pos : Pos} {fa fb fc : DE} {ff : DF} {ga : DA}
theorem kp_free {mu mu' : Addr → Prop} {H H' : Hp} (hm : ∀ a, mu a → ∃ o, H a = some o) {p : Addr} (h : Kp mu H mu' H') : True := trivial
theorem dfr (h : PE X e (lfF X.K Z ff)) : PE X e (lft X.K Z (dL ff)) := PEimp h fun σ H Q h => by
  obtain ⟨M, s, d, s', rl, hf, k⟩ := h
  unfold dL at hf
  simp only [Option.map_eq_some_iff] at hf
  obtain ⟨⟨ds, s1⟩, h1, h2⟩ := hf
  cases h2
  refine ⟨M, s, ds, _, rl, h1, fun p xs H' hp hx k1 r1 t1 => k _ H' k1 r1.unadd (.lst (.inl hx) (fun q => ?_) (t1.mono kp_drop))⟩
  obtain ⟨o, e⟩ := rl.muT p q
  rw [hp] at e; cases e
theorem flst (h : PA X es (lfA X.K Z ga)) : PE X (.List es pos) (lfF X.K Z (fLst ga)) := PEimp (pe_lst h) fun σ H Q h => by
  obtain ⟨M, s, ds, s', rl, hf, k⟩ := h
  unfold fLst at hf
  simp only [Option.bind_eq_some_iff] at hf
  obtain ⟨⟨d1, s1⟩, h1, h2⟩ := hf
  dsimp only at h2
  split at h2
  · cases h2
    rename_i hz
    refine ⟨M, s, ds, _, rl, h1, fun vs H1 k1 r1 t1 => ⟨by rw [t1.len]; exact hz, fun p hp => ?_⟩⟩
    have hp0 : H p = none := by
      cases q : H p with
      | none => rfl
      | some o =>
        by_cases m : Mu Z M p
        · obtain ⟨u, e⟩ := r1.muT p m
          rw [hp] at e; cases e
        · have := (k1.kp p o q m).1
          rw [hp] at this; cases this
    exact k p vs _ hp0 upd_same (k1.trans (kq_grow (grow_new hp))) (r1.addNew hp _) (t1.mono (kp_addNew hp _))
  · cases h2
end

/-! ### statements -/
def sNil : DS := fun s => some (.nx s)
def sSeq (f g : DS) : DS := fun s => (f s).bind fun fl => match fl with
  | .nx s' => g s'
  | fl => some fl
def sSet (i : Nat) (f : DE) : DS := fun s => (f s).map fun p => .nx (p.2.set i (.dat p.1))
def sOwn (i : Nat) (f : DF) : DS := fun s => (f s).bind fun p => if i < p.2.length then some (.nx (p.2.set i (.own p.1))) else none
def sRet (f : DE) : DS := fun s => (f s).map fun p => .rt p.1 p.2
def sRetN : DS := fun s => some (.rt .none s)
def sIf (t : DT) (f g : DS) : DS := fun s => (t s).bind fun p => if p.1 = true then f p.2 else g p.2
def sDrop (f : DE) : DS := fun s => (f s).map fun p => .nx p.2
def sCont : DS := fun s => some (.ct s)
def sBrk : DS := fun s => some (.bk s)
/-- a name's own list is data from here on -/
def sFrz (i : Nat) : DS := fun s => match s[i]? with
  | some (.own ds) => some (.nx (s.set i (.dat (.list ds))))
  | _ => none
section
variable {X : Cx} {Z : Par} {a b e : Expr} {es : List Expr} {pos : Pos} {fa fb fc : DE} {ff : DF} {ga : DA} {st : Stmt} {sts : List Stmt} {f g : DS} {t : DT}
theorem FlOk.mono {K : PySem.W.Frag} {m0 m1 : List Addr} {H0 H1 : Hp} {D : Ends} (k : Kq Z m0 H0 m1 H1) : ∀ {fl : Fl}, FlOk K Z m0 H0 D fl → FlOk K Z m1 H1 D fl
  | .nx _, h => fun M σ H k1 r => h M σ H (k.trans k1) r
  | .rt _ _, h => fun M σ H v k1 r => h M σ H v (k.trans k1) r
  | .bk _, h => fun M σ H k1 r => h M σ H (k.trans k1) r
  | .ct _, h => fun M σ H k1 r => h M σ H (k.trans k1) r
theorem snil : PSs X [] (lfS X.K Z sNil) := PSsimp pss_nil fun D σ H h => by
  obtain ⟨M, s, fl, rl, hf, k⟩ := h
  cases hf
  exact k M σ H (Kq.refl _ _ _) rl
theorem lift_seq {K : PySem.W.Frag} {D : Ends} {σ : L2.St} {H : Hp} (h : lfS K Z (sSeq f g) D σ H) : tSeq (lfS K Z f) (lfS K Z g) D σ H := by
  obtain ⟨M, s, fl, rl, hf, k⟩ := h
  unfold sSeq at hf
  simp only [Option.bind_eq_some_iff] at hf
  obtain ⟨fl1, h1, h2⟩ := hf
  refine ⟨M, s, fl1, rl, h1, ?_⟩
  cases fl1 with
  | nx s1 => exact fun M1 σ1 H1 k1 r1 => ⟨M1, s1, fl, r1, h2, k.mono k1⟩
  | rt d s1 => cases h2; exact k
  | bk s1 => cases h2; exact k
  | ct s1 => cases h2; exact k
theorem scons (h1 : PS X st (lfS X.K Z f)) (h2 : PSs X sts (lfS X.K Z g)) : PSs X (st :: sts) (lfS X.K Z (sSeq f g)) := PSsimp (pss_cons h1 h2) fun _ _ _ h => lift_seq h
theorem sone (h1 : PS X st (lfS X.K Z f)) : PSs X [st] (lfS X.K Z f) := pss_one h1
theorem sset {i : Nat} {x : Str} {pos' : Pos} (hN : X.N.Nodup) (hi : X.N[i]? = some x) (hx : Loc X.env.scope x) (he : PE X e (lft X.K Z fa)) (hs : swapsWith e (some (.Name x pos')) pos.line X.env = pure false := by rfl)
    (hf : X.fn x = true ∨ X.env.scope.names.lookup x = some .local := by first | exact .inl rfl | exact .inr rfl | assumption) : PS X (.Assign [.Name x pos'] e pos) (lfS X.K Z (sSet i fa)) := PSimp (ps_set hN hi hx he hs hf) fun D σ H h => by
  obtain ⟨M, s, fl, rl, h1, k⟩ := h
  unfold sSet at h1
  simp only [Option.map_eq_some_iff] at h1
  obtain ⟨⟨d, s1⟩, h1, h2⟩ := h1
  cases h2
  refine ⟨M, s, d, s1, rl, h1, fun v H1 k1 r1 t1 => ?_⟩
  obtain ⟨M', _, r2, k2⟩ := r1.setDat t1 i
  exact k M' _ H1 (k1.trans k2) r2
theorem sown {i : Nat} {x : Str} {pos' : Pos} (hN : X.N.Nodup) (hi : X.N[i]? = some x) (hx : Loc X.env.scope x) (he : PE X e (lfF X.K Z ff)) (hs : swapsWith e (some (.Name x pos')) pos.line X.env = pure false := by rfl)
    (hf : X.fn x = true ∨ X.env.scope.names.lookup x = some .local := by first | exact .inl rfl | exact .inr rfl | assumption) : PS X (.Assign [.Name x pos'] e pos) (lfS X.K Z (sOwn i ff)) := PSimp (ps_set hN hi hx he hs hf) fun D σ H h => by
  obtain ⟨M, s, fl, rl, h1, k⟩ := h
  unfold sOwn at h1
  simp only [Option.bind_eq_some_iff] at h1
  obtain ⟨⟨ds, s1⟩, h1, h2⟩ := h1
  dsimp only at h2
  split at h2
  · cases h2
    rename_i hlt
    refine ⟨M, s, ds, s1, rl, h1, fun p xs H1 hp hx k1 r1 t1 => ?_⟩
    have npp : Z.p ≠ some p := fun z => by
      obtain ⟨o, e⟩ := rl.pt p z
      rw [hp] at e; cases e
    have n0 : Z.H0 p = none := by
      cases q : Z.H0 p with
      | none => rfl
      | some o =>
        have := rl.base p o q npp
        rw [hp] at this; cases this
    have nm : ¬ Z.m0 p := fun z => by
      obtain ⟨o, e⟩ := rl.mz p z
      rw [hp] at e; cases e
    obtain ⟨M', r2, k2⟩ := r1.own n0 npp nm hx t1 i hlt
    exact k M' _ H1 (fun c u e n1 n2 => ⟨(k1 c u e n1 n2).1, fun z => (k2 c z).elim n2 (ne_of_none e hp)⟩) r2
  · cases h2
theorem sret (he : PE X e (lft X.K Z fa)) : PS X (.Return (some e) pos) (lfS X.K Z (sRet fa)) := PSimp (ps_ret he) fun D σ H h => by
  obtain ⟨M, s, fl, rl, h1, k⟩ := h
  unfold sRet at h1
  simp only [Option.map_eq_some_iff] at h1
  obtain ⟨⟨d, s1⟩, h1, h2⟩ := h1
  cases h2
  exact ⟨M, s, d, s1, rl, h1, fun v H1 k1 r1 t1 => k M σ H1 v k1 r1 t1⟩
theorem sretN : PS X (.Return none pos) (lfS X.K Z sRetN) := PSimp ps_retN fun D σ H h => by
  obtain ⟨M, s, fl, rl, h1, k⟩ := h
  cases h1
  exact k M σ H _ (Kq.refl _ _ _) rl .non
theorem sif {c : Expr} {xs ys : List Stmt} (hc : PT X c (lfT X.K Z t)) (ha : PSs X xs (lfS X.K Z f)) (hb : PSs X ys (lfS X.K Z g)) : PS X (.If c xs ys pos) (lfS X.K Z (sIf t f g)) := PSimp (ps_if hc ha hb) fun D σ H h => by
  obtain ⟨M, s, fl, rl, h1, k⟩ := h
  unfold sIf at h1
  simp only [Option.bind_eq_some_iff] at h1
  obtain ⟨⟨c1, s1⟩, h1, h2⟩ := h1
  refine ⟨M, s, c1, s1, rl, h1, fun H1 k1 r1 => ?_⟩
  cases c1 with
  | true => exact ⟨M, s1, fl, r1, h2, k.mono k1⟩
  | false => exact ⟨M, s1, fl, r1, h2, k.mono k1⟩
theorem sdrop (he : PE X e (lft X.K Z fa)) (hs : swapsWith e none pos.line X.env = pure false := by rfl) : PS X (.Expr e pos) (lfS X.K Z (sDrop fa)) := PSimp (ps_expr he hs) fun D σ H h => by
  obtain ⟨M, s, fl, rl, h1, k⟩ := h
  unfold sDrop at h1
  simp only [Option.map_eq_some_iff] at h1
  obtain ⟨⟨d, s1⟩, h1, h2⟩ := h1
  cases h2
  exact ⟨M, s, d, s1, rl, h1, fun v H1 k1 r1 t1 => k M σ H1 k1 r1⟩
theorem scont : PS X (.Continue pos) (lfS X.K Z sCont) := PSimp ps_continue fun D σ H h => by
  obtain ⟨M, s, fl, rl, h1, k⟩ := h
  cases h1
  exact k M σ H (Kq.refl _ _ _) rl
theorem sbrk : PS X (.Break pos) (lfS X.K Z sBrk) := PSimp ps_break fun D σ H h => by
  obtain ⟨M, s, fl, rl, h1, k⟩ := h
  cases h1
  exact k M σ H (Kq.refl _ _ _) rl
/-- .. freezing -/
theorem SlAll.frz {K : PySem.W.Frag} {mu : Addr → Prop} {q : Option Addr} {H : Hp} {ds : List PyData} : ∀ {σ : L2.St} {s : Sl} {M : List Addr} (i : Nat), SlAll K mu q H σ s M → s[i]? = some (.own ds) →
    ∃ a xs M', σ[i]? = some (some (.ref a)) ∧ H a = some (.lst xs) ∧ DtAll K mu H xs ds ∧ a ∈ M ∧ a ∉ M' ∧ (∀ b ∈ M', b ∈ M) ∧ (∀ mu', (∀ b, mu' b → mu b) → ¬ mu' a → SlAll K mu' q H σ (s.set i (.dat (.list ds))) M')
  | _, _, _, _, .nil, e => by simp at e
  | _, _, _, 0, .dat h t, e => by simp at e
  | _, _, _, 0, .no t, e => by simp at e
  | _, _, _, 0, .pot .., e => by simp at e
  | _, _, _, 0, .own (a := a) (xs := xs) h d n t, e => by
    simp at e
    subst e
    refine ⟨a, xs, _, rfl, h, d, List.mem_cons_self, n, fun b hb => List.mem_cons_of_mem _ hb, fun mu' hs hn => ?_⟩
    have k : Kp mu H mu' H := fun c u e nn => ⟨e, fun z => nn (hs c z)⟩
    exact .dat (.lst (.inl h) hn (d.mono k)) (t.kp k (fun _ _ _ e => e) (fun _ _ _ e => e) (fun _ h => h))
  | _, _, _, i + 1, .dat h t, e => by
    obtain ⟨a, xs, M', h1, h2, h3, h4, h5, h6, h7⟩ := SlAll.frz i t (by simpa using e)
    exact ⟨a, xs, M', by simpa using h1, h2, h3, h4, h5, h6, fun mu' hs hn => .dat (h.mono fun c u e nn => ⟨e, fun z => nn (hs c z)⟩) (h7 mu' hs hn)⟩
  | _, _, _, i + 1, .no t, e => by
    obtain ⟨a, xs, M', h1, h2, h3, h4, h5, h6, h7⟩ := SlAll.frz i t (by simpa using e)
    exact ⟨a, xs, M', by simpa using h1, h2, h3, h4, h5, h6, fun mu' hs hn => .no (h7 mu' hs hn)⟩
  | _, _, _, i + 1, .own (a := c) h d n t, e => by
    obtain ⟨a, xs, M', h1, h2, h3, h4, h5, h6, h7⟩ := SlAll.frz i t (by simpa using e)
    refine ⟨a, xs, c :: M', by simpa using h1, h2, h3, List.mem_cons_of_mem _ h4, fun z => (List.mem_cons.mp z).elim (fun w => n (w ▸ h4)) h5, fun b hb => (List.mem_cons.mp hb).elim (fun w => w ▸ List.mem_cons_self) fun w => List.mem_cons_of_mem _ (h6 b w), fun mu' hs hn => ?_⟩
    exact .own h (d.mono fun c u e nn => ⟨e, fun z => nn (hs c z)⟩) (fun z => n (h6 c z)) (h7 mu' hs hn)
  | _, _, _, i + 1, .pot e1 h d t, e => by
    obtain ⟨a, xs, M', h1, h2, h3, h4, h5, h6, h7⟩ := SlAll.frz i t (by simpa using e)
    exact ⟨a, xs, M', by simpa using h1, h2, h3, h4, h5, h6, fun mu' hs hn => .pot e1 h (d.mono fun c u e nn => ⟨e, fun z => nn (hs c z)⟩) (h7 mu' hs hn)⟩
  | _, _, _, 0, .tab .., e => by simp at e
  | _, _, _, i + 1, .tab e1 h d f t, e => by
    obtain ⟨a, xs, M', h1, h2, h3, h4, h5, h6, h7⟩ := SlAll.frz i t (by simpa using e)
    exact ⟨a, xs, M', by simpa using h1, h2, h3, h4, h5, h6, fun mu' hs hn => .tab e1 h d (fun pos cv z => let ⟨c, g1, g2, g3⟩ := f pos cv z; ⟨c, g1, g2, fun w => g3 (hs c w)⟩) (h7 mu' hs hn)⟩
  | _, _, _, 0, .dic .., e => by simp at e
  | _, _, _, i + 1, .dic (a := c) h n t, e => by
    obtain ⟨a, xs, M', h1, h2, h3, h4, h5, h6, h7⟩ := SlAll.frz i t (by simpa using e)
    refine ⟨a, xs, c :: M', by simpa using h1, h2, h3, List.mem_cons_of_mem _ h4, fun z => (List.mem_cons.mp z).elim (fun w => n (w ▸ h4)) h5, fun b hb => (List.mem_cons.mp hb).elim (fun w => w ▸ List.mem_cons_self) fun w => List.mem_cons_of_mem _ (h6 b w), fun mu' hs hn => ?_⟩
    exact .dic (h.mono (fun c u e nn => ⟨e, fun z => nn (hs c z)⟩) fun _ e => e) (fun z => n (h6 c z)) (h7 mu' hs hn)
theorem sfrz {i : Nat} (h : PSs X sts (lfS X.K Z g)) : PSs X sts (lfS X.K Z (sSeq (sFrz i) g)) := PSsimp h fun D σ H h => by
  obtain ⟨M, s, fl, rl, h1, k⟩ := h
  unfold sSeq sFrz at h1
  simp only [Option.bind_eq_some_iff] at h1
  obtain ⟨fl1, h1, h2⟩ := h1
  split at h1
  · rename_i ds hs
    cases h1
    obtain ⟨a, xs, M', g1, g2, g3, g4, g5, g6, g7⟩ := rl.sl.frz i hs
    have sub : ∀ b, Mu Z M' b → Mu Z M b := fun b hb => by
      rcases hb with hb | hb | hb
      · exact .inl hb
      · exact .inr (.inl hb)
      · exact .inr (.inr (g6 b hb))
    have na : ¬ Mu Z M' a := fun hb => by
      rcases hb with hb | hb | hb
      · exact (rl.fr a g4).2.2.1 hb
      · exact (rl.fr a g4).2.1 hb
      · exact g5 hb
    have kk : Kq Z M H M' H := fun c u e _ nn => ⟨e, fun z => nn (g6 c z)⟩
    exact ⟨M', _, fl, ⟨rl.base, fun b hb => rl.fr b (g6 b hb), rl.mz, rl.pt, g7 _ sub na⟩, h2, k.mono kk⟩
  · cases h1
end
end Dl

namespace Dl
open PySem PySem.Spec PyProof.Rows L2

/-! ### lists that may be changed -/
def contents (s : Sl) (i : Nat) : Option (List PyData) := match s[i]? with
  | some (.own ds) => some ds
  | some (.pot ds) => some ds
  | _ => none
def potUp (ds : List PyData) : SV → SV
  | .pot _ => .pot ds
  | x => x
def setC (s : Sl) (i : Nat) (ds : List PyData) : Sl := match s[i]? with
  | some (.own _) => s.set i (.own ds)
  | some (.pot _) => s.map (potUp ds)
  | _ => s
section
variable {K : PySem.W.Frag} {Z : Par} {M M' : List Addr} {σ : L2.St} {H H' : Hp} {s s' : Sl} {p : Addr} {mu : Addr → Prop} {q : Option Addr}
theorem SlAll.wrOwn {ds' : List PyData} {xs' : List V} {a : Addr} (hk : Kp mu H mu H') (hs : ∀ b o, H b = some o → b ≠ a → H' b = some o) (h1 : H' a = some (.lst xs')) (h2 : DtAll K mu H' xs' ds') (hq : q ≠ some a) {M : List Addr} (t : SlAll K mu q H σ s M) :
    ∀ (i : Nat) (ds : List PyData), s[i]? = some (.own ds) → σ[i]? = some (some (.ref a)) → SlAll K mu q H' σ (s.set i (.own ds')) M := by
  have rest : ∀ {σ : L2.St} {s : Sl} {M : List Addr}, a ∉ M → SlAll K mu q H σ s M → SlAll K mu q H' σ s M := fun {σ s M} n t =>
    t.kp hk (M := M) (fun b xs hb e => hs b _ e (fun z => n (z ▸ hb))) (fun b xs hb e => hs b _ e (fun z => hq (z ▸ hb))) (fun _ h => h)
  induction t with
  | nil => intro i ds e; simp at e
  | dat h t ih =>
    intro i ds e f
    cases i with
    | zero => simp at e
    | succ i => exact .dat (h.mono hk) (ih i ds (by simpa using e) (by simpa using f))
  | no t ih =>
    intro i ds e f
    cases i with
    | zero => simp at e
    | succ i => exact .no (ih i ds (by simpa using e) (by simpa using f))
  | pot e0 h d t ih =>
    intro i ds e f
    cases i with
    | zero => simp at e
    | succ i => exact .pot e0 (hs _ _ h (fun z => hq (z ▸ e0))) (d.mono hk) (ih i ds (by simpa using e) (by simpa using f))
  | tab e0 h d w t ih =>
    intro i ds e f
    cases i with
    | zero => simp at e
    | succ i => exact .tab e0 (hs _ _ h (fun z => hq (z ▸ e0))) d (fun pos cv z => let ⟨c, g1, g2, g3⟩ := w pos cv z; ⟨c, g1, (hk _ _ g2 g3).1, (hk _ _ g2 g3).2⟩) (ih i ds (by simpa using e) (by simpa using f))
  | @dic c ct σ s M h m t ih =>
    intro i ds e f
    cases i with
    | zero => simp at e
    | succ i =>
      have nc : c ≠ a := fun z => by
        subst z
        obtain ⟨b, xs, g1, g2, _⟩ := t.getOwn (i := i) (by simpa using e)
        have : σ[i]? = some (some (.ref c)) := by simpa using f
        rw [this] at g1
        simp only [Option.some.injEq, V.ref.injEq] at g1
        exact m (g1 ▸ g2)
      exact .dic (h.mono hk fun o e => hs _ _ e nc) m (ih i ds (by simpa using e) (by simpa using f))
  | @own c ys es σ s M h d m t ih =>
    intro i ds e f
    cases i with
    | zero =>
      simp at f
      subst f
      exact .own h1 h2 m (rest m t)
    | succ i =>
      have nc : c ≠ a := fun z => by
        subst z
        obtain ⟨b, xs, g1, g2, _⟩ := t.getOwn (i := i) (by simpa using e)
        have : σ[i]? = some (some (.ref c)) := by simpa using f
        rw [this] at g1
        simp only [Option.some.injEq, V.ref.injEq] at g1
        exact m (g1 ▸ g2)
      exact .own (hs _ _ h nc) (d.mono hk) m (ih i ds (by simpa using e) (by simpa using f))
theorem SlAll.wrPot {ds' : List PyData} {xs' : List V} {a : Addr} (hk : Kp mu H mu H') (hs : ∀ b o, H b = some o → b ≠ a → H' b = some o) (h1 : H' a = some (.lst xs')) (h2 : DtAll K mu H' xs' ds') (hq : q = some a) (hl : ∃ xs, H a = some (.lst xs)) {M : List Addr} (t : SlAll K mu q H σ s M) (n : a ∉ M) :
    SlAll K mu q H' σ (s.map (potUp ds')) M := by
  induction t with
  | nil => exact .nil
  | dat h t ih => exact .dat (h.mono hk) (ih n)
  | no t ih => exact .no (ih n)
  | pot e0 h d t ih =>
    rw [hq] at e0
    cases e0
    exact .pot hq h1 h2 (ih n)
  | tab e0 h d w t ih =>
    rw [hq] at e0
    cases e0
    obtain ⟨xs, hl⟩ := hl
    rw [hl] at h
    cases h
  | own h d m t ih => exact .own (hs _ _ h (fun z => n (z ▸ List.mem_cons_self))) (d.mono hk) m (ih (fun z => n (List.mem_cons_of_mem _ z)))
  | dic h m t ih => exact .dic (h.mono hk fun o e => hs _ _ e (fun z => n (z ▸ List.mem_cons_self))) m (ih (fun z => n (List.mem_cons_of_mem _ z)))
theorem Rel.at (r : Rel K Z M σ H s) {i : Nat} {ds : List PyData} (h : contents s i = some ds) : ∃ a xs, σ[i]? = some (some (.ref a)) ∧ H a = some (.lst xs) ∧ DtAll K (Mu Z M) H xs ds ∧ Mu Z M a ∧
    ∀ H' xs' ds', H' a = some (.lst xs') → (∀ b o, H b = some o → b ≠ a → H' b = some o) → DtAll K (Mu Z M) H' xs' ds' → Rel K Z M σ H' (setC s i ds') ∧ Kq Z M H M H' := by
  unfold contents at h
  split at h
  · rename_i es hs
    cases h
    obtain ⟨a, xs, h1, h2, h3, h4⟩ := r.sl.getOwn hs
    have hmu : Mu Z M a := .inr (.inr h2)
    refine ⟨a, xs, h1, h3, h4, hmu, fun H' xs' ds' e1 e2 e3 => ?_⟩
    have k : Kp (Mu Z M) H (Mu Z M) H' := fun b o e n => ⟨e2 b o e (fun z => n (z ▸ hmu)), n⟩
    have ex : ∀ b o, H b = some o → ∃ u, H' b = some u := fun b o e => by
      by_cases z : b = a
      · rw [z]; exact ⟨_, e1⟩
      · exact ⟨o, e2 b o e z⟩
    refine ⟨⟨fun b o e n => e2 b o (r.base b o e n) (fun z => ?_), fun b hb => let ⟨f1, f2, f3, u, f4⟩ := r.fr b hb; ⟨f1, f2, f3, ex b u f4⟩, fun b hb => let ⟨u, f⟩ := r.mz b hb; ex b u f, fun b hb => let ⟨u, f⟩ := r.pt b hb; ex b u f, ?_⟩, fun b o e _ n => ⟨e2 b o e (fun z => n (z ▸ h2)), n⟩⟩
    · rw [z, (r.fr a h2).1] at e; cases e
    · unfold setC
      rw [hs]
      exact r.sl.wrOwn k e2 e1 e3 (r.fr a h2).2.1 i ds hs h1
  · rename_i es hs
    cases h
    obtain ⟨a, xs, h1, h2, h3, h4⟩ := r.sl.getPot hs
    have hmu : Mu Z M a := .inr (.inl h2)
    refine ⟨a, xs, h1, h3, h4, hmu, fun H' xs' ds' e1 e2 e3 => ?_⟩
    have k : Kp (Mu Z M) H (Mu Z M) H' := fun b o e n => ⟨e2 b o e (fun z => n (z ▸ hmu)), n⟩
    have ex : ∀ b o, H b = some o → ∃ u, H' b = some u := fun b o e => by
      by_cases z : b = a
      · rw [z]; exact ⟨_, e1⟩
      · exact ⟨o, e2 b o e z⟩
    refine ⟨⟨fun b o e n => e2 b o (r.base b o e n) (fun z => n (z ▸ h2)), fun b hb => let ⟨f1, f2, f3, u, f4⟩ := r.fr b hb; ⟨f1, f2, f3, ex b u f4⟩, fun b hb => let ⟨u, f⟩ := r.mz b hb; ex b u f, fun b hb => let ⟨u, f⟩ := r.pt b hb; ex b u f, ?_⟩, fun b o e n m => ⟨e2 b o e (fun z => n (z ▸ h2)), m⟩⟩
    unfold setC
    rw [hs]
    exact r.sl.wrPot k e2 e1 e3 h2 ⟨xs, h3⟩ (fun z => (r.fr a z).2.1 h2)
  · cases h
end

/-- x[e], x a list that may be changed -/
def dIxC (i : Nat) (f : DE) : DE := fun s => (contents s i).bind fun _ => (f s).bind fun p => (contents p.2 i).bind fun ds => match p.1 with
  | .int k => (atI ds k).map fun d => (d, p.2)
  | _ => none
theorem atI_dt {K : PySem.W.Frag} {mu : Addr → Prop} {H : Hp} {xs : List V} {ds : List PyData} {k : Int} {d : PyData} (t : DtAll K mu H xs ds) (h : atI ds k = some d) : ∃ v, atI xs k = some v ∧ Dt K mu H v d := by
  unfold atI at h ⊢
  rw [t.len]
  simp only [Option.bind_eq_some_iff] at h ⊢
  obtain ⟨j, h1, h2⟩ := h
  obtain ⟨v, h3, h4⟩ := t.get h2
  exact ⟨v, ⟨j, h1, h3⟩, h4⟩
/-- texts, numbers, truths, None -/
def scalD : PyData → Bool
  | .none => true
  | .bool _ => true
  | .int _ => true
  | .str _ => true
  | _ => false
/-- e in x -/
def dInC (neg : Bool) (f : DE) (i : Nat) : DE := fun s => (f s).bind fun p => (contents p.2 i).bind fun ds => if scalD p.1 = true ∧ ds.all scalD = true then some (.bool (if neg then !ds.any (fun z => PyData.eqv z p.1) else ds.any fun z => PyData.eqv z p.1), p.2) else none
/-- x.append(e) -/
def sApp (i : Nat) (f : DE) : DS := fun s => (contents s i).bind fun _ => (f s).bind fun p => (contents p.2 i).bind fun ds => if ds.length < sizeLine then some (.nx (setC p.2 i (ds ++ [p.1]))) else none
/-- x[g] = f -/
def sSetIx (i : Nat) (f g : DE) : DS := fun s => (f s).bind fun p => (contents p.2 i).bind fun _ => (g p.2).bind fun q => (contents q.2 i).bind fun ds => match q.1 with
  | .int k => (ixN ds.length k).map fun j => .nx (setC q.2 i (ds.set j p.1))
  | _ => none
section
variable {X : Cx} {Z : Par} {a b e : Expr} {es : List Expr} {pos : Pos} {fa fb fc : DE} {ff : DF} {ga : DA} {st : Stmt} {sts : List Stmt} {f g : DS} {t : DT}
theorem dixC (i : Nat) (ha : PE X a (tVar i)) (hb : PE X b (lft X.K Z fb)) (hs : PlainIx b := by exact fun _ _ => rfl) : PE X (.Subscript a b pos) (lft X.K Z (dIxC i fb)) := PEimp (pe_ix ix_list ha hb hs) fun σ H Q h => by
  obtain ⟨M, s, d, s', rl, hf, k⟩ := h
  unfold dIxC at hf
  simp only [Option.bind_eq_some_iff] at hf
  obtain ⟨ds0, h0, ⟨d1, s1⟩, h1, ds, h2, h3⟩ := hf
  dsimp only at h2 h3
  split at h3
  · rename_i kk
    simp only [Option.map_eq_some_iff] at h3
    obtain ⟨d2, h3, h4⟩ := h3
    cases h4
    obtain ⟨a0, xs0, g1, _⟩ := rl.at h0
    refine ⟨.ref a0, g1, M, s, _, _, rl, h1, fun v H1 k1 r1 t1 => ?_⟩
    obtain ⟨a1, xs, e1, e2, e3, _⟩ := r1.at h2
    rw [g1] at e1
    cases e1
    obtain ⟨v2, e4, e5⟩ := atI_dt e3 h3
    exact ⟨a0, xs, kk, v2, rfl, t1.inti, .inl (.inl e2), e4, k _ H1 k1 r1 e5⟩
  · cases h3
theorem scal_v {K : PySem.W.Frag} {mu : Addr → Prop} {H : Hp} {v : V} {d : PyData} (t : Dt K mu H v d) (h : scalD d = true) : flatV v = true := by
  cases t <;> first | rfl | (exact absurd h (by simp [scalD]))
theorem scal_vs {K : PySem.W.Frag} {mu : Addr → Prop} {H : Hp} : ∀ {vs : List V} {ds : List PyData}, DtAll K mu H vs ds → ds.all scalD = true → vs.all flatV = true
  | _, _, .nil, _ => rfl
  | _, _, .cons h t, e => by
    rw [List.all_cons, Bool.and_eq_true] at e ⊢
    exact ⟨scal_v h e.1, scal_vs t e.2⟩
theorem scal_eq {K : PySem.W.Frag} {mu : Addr → Prop} {H : Hp} {v w : V} {d e : PyData} (t : Dt K mu H v d) (u : Dt K mu H w e) (h : scalD d = true) (h' : scalD e = true) : eqV v w = PyData.eqv d e := by
  cases d with
  | list _ => cases h
  | tuple _ => cases h
  | dict _ => cases h
  | none => cases t; cases e <;> first | (cases h'; done) | (cases u; simp [eqV, PyData.eqv])
  | bool _ => cases t; cases e <;> first | (cases h'; done) | (cases u; simp [eqV, PyData.eqv])
  | int _ => cases t; cases e <;> first | (cases h'; done) | (cases u; simp [eqV, PyData.eqv])
  | str _ => cases t; cases e <;> first | (cases h'; done) | (cases u; simp [eqV, PyData.eqv])
theorem scal_any {K : PySem.W.Frag} {mu : Addr → Prop} {H : Hp} {v : V} {d : PyData} (u : Dt K mu H v d) (h : scalD d = true) : ∀ {vs : List V} {ds : List PyData}, DtAll K mu H vs ds → ds.all scalD = true → inV v vs = ds.any fun z => PyData.eqv z d
  | _, _, .nil, _ => rfl
  | _, _, .cons g t, e => by
    rw [List.all_cons, Bool.and_eq_true] at e
    have ih := scal_any u h t e.2
    unfold inV at ih ⊢
    rw [List.any_cons, List.any_cons, ih, scal_eq g u e.1 h]
theorem dinC (neg : Bool) {op : CmpOp} (hop : OpR X (compareOp op) (rIn X.K neg)) (i : Nat) (ha : PE X a (lft X.K Z fa)) (hb : PE X b (tVar i)) (hm : behindInMarks op b = false) : PE X (.Compare a [op] [b] pos) (lft X.K Z (dInC neg fa i)) := PEimp (pe_cmpR hop ha hb hm) fun σ H Q h => by
  obtain ⟨M, s, d, s', rl, hf, k⟩ := h
  unfold dInC at hf
  simp only [Option.bind_eq_some_iff] at hf
  obtain ⟨⟨d1, s1⟩, h1, ds, h2, h3⟩ := hf
  dsimp only at h2 h3
  split at h3
  · rename_i hc
    cases h3
    refine ⟨M, s, d1, _, rl, h1, fun v H1 k1 r1 t1 => ?_⟩
    obtain ⟨a1, xs, e1, e2, e3, _⟩ := r1.at h2
    refine ⟨.ref a1, e1, a1, xs, rfl, .inl (.inl (.inl e2)), scal_v t1 hc.1, scal_vs e3 hc.2, ?_⟩
    rw [scal_any t1 hc.1 e3 hc.2]
    exact k _ H1 k1 r1 (.bl _)
  · cases h3
theorem dtinC (neg : Bool) {op : CmpOp} (hop : OpR X (compareOp op) (rIn X.K neg)) (i : Nat) (ha : PE X a (lft X.K Z fa)) (hb : PE X b (tVar i)) (hm : behindInMarks op b = false) : PT X (.Compare a [op] [b] pos) (lfT X.K Z (dTst (dInC neg fa i))) := PTimp (pt_cmpR hop ha hb hm) fun σ H Q h => by
  obtain ⟨M, s, d, s', rl, hf, k⟩ := h
  have hf := dTst_some hf
  unfold dInC at hf
  simp only [Option.bind_eq_some_iff] at hf
  obtain ⟨⟨d1, s1⟩, h1, ds, h2, h3⟩ := hf
  dsimp only at h2 h3
  split at h3
  · rename_i hc
    simp only [Option.some.injEq, Prod.mk.injEq, PyData.bool.injEq] at h3
    obtain ⟨h3, rfl⟩ := h3
    refine ⟨M, s, d1, _, rl, h1, fun v H1 k1 r1 t1 => ?_⟩
    obtain ⟨a1, xs, e1, e2, e3, _⟩ := r1.at h2
    refine ⟨.ref a1, e1, a1, xs, rfl, .inl (.inl (.inl e2)), scal_v t1 hc.1, scal_vs e3 hc.2, ?_⟩
    rw [scal_any t1 hc.1 e3 hc.2]
    exact ⟨_, rfl, by rw [h3]; exact k H1 k1 r1⟩
  · cases h3
theorem upd_lst {H : Hp} {a : Addr} {o : HO} : ∀ b u, H b = some u → b ≠ a → (upd H a o) b = some u := fun b u e n => by rw [upd_ne n]; exact e
theorem sapp (i : Nat) {apos cpos : Pos} (ha : PE X a (tVar i)) (hb : PE X b (lft X.K Z fb)) (hbase : attributeBase a "append" X.env (eval a X.env) = eval a X.env := by rfl)
    (hfew : ((backTo cpos (starEach [b] X.env)).all (fun x => !x.1) && (backToKw cpos (keywordEach [] X.env)).all (fun x => x.1.isSome) && decide (([b] : List Expr).length + ([] : List Keyword).length + (if ([] : List Keyword).isEmpty then 0 else 1) < 30)) = true := by rfl)
    (hline : (apos.endLine == cpos.line) = true := by rfl) (hs : starEach [b] X.env = (false, eval b X.env) :: starEach [] X.env := by rfl) (hplain : (backTo cpos (starEach [] X.env)).any (·.1) = false := by rfl)
    (hsw : swapsWith (.Call (.Attribute a "append" apos) [b] [] cpos) none pos.line X.env = pure false := by rfl) :
    PS X (.Expr (.Call (.Attribute a "append" apos) [b] [] cpos) pos) (lfS X.K Z (sApp i fb)) := PSimp (ps_expr (pe_bm PySem.F.plainAttrs_list PySem.F.slot_list_append PySem.F.type_list_append mt_append ha (pa_cons hb pa_nil hs) hbase hfew hline hs hplain) hsw) fun D σ H h => by
  obtain ⟨M, s, fl, rl, hf, k⟩ := h
  unfold sApp at hf
  simp only [Option.bind_eq_some_iff] at hf
  obtain ⟨ds0, h0, ⟨d1, s1⟩, h1, ds, h2, h3⟩ := hf
  dsimp only at h2 h3
  split at h3
  · rename_i hz
    cases h3
    obtain ⟨a0, xs0, g1, g2, _⟩ := rl.at h0
    refine ⟨.ref a0, g1, .inl ⟨rfl, _, .inl (.inl g2)⟩, M, s, d1, s1, rl, h1, fun v H1 k1 r1 t1 => ?_⟩
    obtain ⟨a1, xs, e1, e2, e3, _, e5⟩ := r1.at h2
    rw [g1] at e1
    cases e1
    refine ⟨a0, xs, v, rfl, rfl, e2, by rw [e3.len]; exact hz, ?_⟩
    have kk : Kp (Mu Z M) H1 (Mu Z M) (upd H1 a0 (.lst (xs ++ [v]))) := fun b o e n => ⟨upd_lst b o e (fun z => n (by subst z; assumption)), n⟩
    obtain ⟨r2, k2⟩ := e5 (upd H1 a0 (.lst (xs ++ [v]))) (xs ++ [v]) (ds ++ [d1]) upd_same upd_lst ((e3.append (.cons t1 .nil)).mono kk)
    exact k M σ _ (k1.trans k2) r2
  · cases h3
theorem ssetIx (i : Nat) {e1 c : Expr} {p1 : Pos} {fe fc : DE} (he : PE X e1 (lft X.K Z fe)) (ha : PE X a (tVar i)) (hc : PE X c (lft X.K Z fc))
    (h4 : ∀ v, assign (.Subscript a c p1) X.env v = (do
      let ov ← holding [v] (eval a X.env)
      let iv ← holding [v, ov] (eval c X.env)
      standAt p1
      holding [v, ov, iv] (setItem ov iv v)
      release [v, ov, iv] []) := by intro _; rfl)
    (hs : swapsWithSole [.Subscript a c p1] e1 pos.line X.env = pure false := by rfl) (hw : swappedStores [.Subscript a c p1] e1 X.env = pure none := by rfl) (h1 : (assignEach [.Subscript a c p1] X.env).map (·.2) = [assign (.Subscript a c p1) X.env] := by rfl) :
    PS X (.Assign [.Subscript a c p1] e1 pos) (lfS X.K Z (sSetIx i fe fc)) := PSimp (ps_asg he (pg_sub ha hc set_list h4) hs hw h1) fun D σ H h => by
  obtain ⟨M, s, fl, rl, hf, k⟩ := h
  unfold sSetIx at hf
  simp only [Option.bind_eq_some_iff] at hf
  obtain ⟨⟨d1, s1⟩, h1, ds0, h0, ⟨d2, s2⟩, h2, ds, h3, h4⟩ := hf
  dsimp only at h0 h2 h3 h4
  split at h4
  · rename_i kk
    simp only [Option.map_eq_some_iff] at h4
    obtain ⟨j, h4, h5⟩ := h4
    cases h5
    refine ⟨M, s, d1, _, rl, h1, fun v H1 k1 r1 t1 => ?_⟩
    obtain ⟨a0, xs0, g1, g2, _⟩ := r1.at h0
    refine ⟨.ref a0, g1, M, s1, _, s2, r1, h2, fun w H2 k2 r2 t2 => ?_⟩
    obtain ⟨a1, xs, e1, e2, e3, _, e5⟩ := r2.at h3
    rw [g1] at e1
    cases e1
    refine ⟨a0, xs, kk, j, rfl, t2.inti, e2, by rw [e3.len]; exact h4, ?_⟩
    have kk : Kp (Mu Z M) H2 (Mu Z M) (upd H2 a0 (.lst (xs.set j v))) := fun b o e n => ⟨upd_lst b o e (fun z => n (by subst z; assumption)), n⟩
    obtain ⟨r3, k3⟩ := e5 (upd H2 a0 (.lst (xs.set j v))) (xs.set j v) (ds.set j d1) upd_same upd_lst ((DtAll.set (t1.mono k2.kp) j e3).mono kk)
    exact k M σ _ (k1.trans (k2.trans k3)) r3
  · cases h4
end
end Dl

namespace Dl
open PySem PySem.Spec PyProof.Rows L2

/-! ### what is walked -/
def Yields (K : PySem.W.Frag) (mu : Addr → Prop) (H : Hp) (J : It) (ds : List PyData) : Prop := ∀ mu' H', Kp mu H mu' H' → ∀ i, (i < ds.length → J.go i H' ∧ ∀ x H'', J.yld i H' x H'' → H'' = H' ∧ ∃ d, ds[i]? = some d ∧ Dt K mu' H' x d) ∧ (ds.length ≤ i → J.stop i H')
theorem Yields.mono {K : PySem.W.Frag} {mu mu' : Addr → Prop} {H H' : Hp} {J : It} {ds : List PyData} (h : Yields K mu H J ds) (k : Kp mu H mu' H') : Yields K mu' H' J ds := fun m2 H2 k2 i => h m2 H2 (k.trans k2) i
def lfI (K : PySem.W.Frag) (Z : Par) (f : DF) : TI := fun σ H R => ∃ M s ds s', Rel K Z M σ H s ∧ f s = some (ds, s') ∧ ∀ J H', Kq Z M H M H' → Rel K Z M σ H' s' → Yields K (Mu Z M) H' J ds → R J H'
theorem PIimp {X : Cx} {tg e : Expr} {t t' : TI} (h : PI X tg e t) (i : ∀ σ H Q, t' σ H Q → t σ H Q) : PI X tg e t' := ⟨fun pins s σ H Q I q => h.run pins s σ H Q I (i σ H Q q)⟩
/-- a list, a tuple, a text's signs, a range's numbers -/
def itL (f : DE) : DF := fun s => (f s).bind fun p => match p.1 with
  | .list ds => some (ds, p.2)
  | _ => none
def itT (f : DE) : DF := fun s => (f s).bind fun p => match p.1 with
  | .tuple ds => some (ds, p.2)
  | _ => none
def signs (x : Str) : List PyData := x.cps.toList.map fun c => .str ⟨#[c]⟩
def itS (f : DE) : DF := fun s => (f s).bind fun p => match p.1 with
  | .str x => some (signs x, p.2)
  | _ => none
def rng (lo n : Int) : List PyData := (List.range (n - lo).toNat).map fun (k : Nat) => .int (lo + (k : Int))
def itR1 (f : DE) : DF := fun s => (f s).bind fun p => match p.1 with
  | .int n => if -(2 ^ 62) ≤ n ∧ n < 2 ^ 62 then some (rng 0 n, p.2) else none
  | _ => none
def itR2 (f g : DE) : DF := fun s => (f s).bind fun p => (g p.2).bind fun q => match p.1, q.1 with
  | .int lo, .int n => if (-(2 ^ 62) ≤ lo ∧ lo < 2 ^ 62) ∧ -(2 ^ 62) ≤ n ∧ n < 2 ^ 62 then some (rng lo n, q.2) else none
  | _, _ => none
section
variable {K : PySem.W.Frag} {mu : Addr → Prop} {H : Hp}
theorem yields_list {a : Addr} {ds : List PyData} (t : Dt K mu H (.ref a) (.list ds)) : Yields K mu H (Itl K a) ds := fun mu' H' k i => by
  obtain ⟨b, xs, e, h1, h2⟩ := (t.mono k).list
  cases e
  constructor
  · intro hi
    obtain ⟨v, g1, g2⟩ := h2.get (List.getElem?_eq_getElem hi)
    refine ⟨⟨xs, v, h1, g1⟩, fun x H'' hy => ⟨hy.1, _, List.getElem?_eq_getElem hi, ?_⟩⟩
    have e := hy.2 xs h1
    rw [g1] at e
    cases e
    exact g2
  · intro hi
    exact ⟨xs, h1, by rw [h2.len]; exact hi⟩
theorem yields_tup {a : Addr} {ds : List PyData} (t : Dt K mu H (.ref a) (.tuple ds)) : Yields K mu H (Itt K a) ds := fun mu' H' k i => by
  obtain ⟨b, xs, e, h1, h2⟩ := (t.mono k).tuple
  cases e
  constructor
  · intro hi
    obtain ⟨v, g1, g2⟩ := h2.get (List.getElem?_eq_getElem hi)
    refine ⟨⟨xs, v, h1, g1⟩, fun x H'' hy => ⟨hy.1, _, List.getElem?_eq_getElem hi, ?_⟩⟩
    have e := hy.2 xs h1
    rw [g1] at e
    cases e
    exact g2
  · intro hi
    exact ⟨xs, h1, by rw [h2.len]; exact hi⟩
theorem yields_str (x : Str) : Yields K mu H (Its x) (signs x) := fun mu' H' k i => by
  have hl : (signs x).length = x.cps.size := by unfold signs; rw [List.length_map, Array.length_toList]
  constructor
  · intro hi
    rw [hl] at hi
    refine ⟨hi, fun v H'' hy => ⟨hy.1, ?_⟩⟩
    obtain ⟨c, e1, e2⟩ := hy.2
    refine ⟨.str ⟨#[c]⟩, ?_, by rw [e2]; exact .str _⟩
    unfold signs
    rw [List.getElem?_map, Array.getElem?_toList, e1]
    rfl
  · intro hi
    rw [hl] at hi
    exact hi
theorem yields_rng (lo n : Int) : Yields K mu H (Itr lo (n - lo).toNat) (rng lo n) := fun mu' H' k i => by
  have hl : (rng lo n).length = (n - lo).toNat := by unfold rng; rw [List.length_map, List.length_range]
  constructor
  · intro hi
    rw [hl] at hi
    refine ⟨hi, fun v H'' hy => ⟨hy.1, .int (lo + (i : Int)), ?_, by rw [hy.2]; exact .int _⟩⟩
    unfold rng
    rw [List.getElem?_map, List.getElem?_range hi]
    rfl
  · intro hi
    rw [hl] at hi
    exact hi
end
section
variable {X : Cx} {Z : Par} {tg a b e : Expr} {es : List Expr} {pos : Pos} {fa fb fc : DE} {ff : DF} {ga : DA} {st : Stmt} {sts : List Stmt} {f g : DS} {t : DT}
theorem pil (h : PE X e (lft X.K Z fa)) : PI X tg e (lfI X.K Z (itL fa)) := PIimp (pi_list h) fun σ H R h => by
  obtain ⟨M, s, ds, s', rl, hf, k⟩ := h
  unfold itL at hf
  simp only [Option.bind_eq_some_iff] at hf
  obtain ⟨⟨d1, s1⟩, h1, h2⟩ := hf
  dsimp only at h2
  split at h2
  · cases h2
    refine ⟨M, s, _, _, rl, h1, fun v H1 k1 r1 t1 => ?_⟩
    obtain ⟨a, xs, rfl, g1, g2⟩ := t1.list
    exact ⟨a, rfl, ⟨xs, g1⟩, k _ H1 k1 r1 (yields_list t1)⟩
  · cases h2
theorem pit (h : PE X e (lft X.K Z fa)) : PI X tg e (lfI X.K Z (itT fa)) := PIimp (pi_tup h) fun σ H R h => by
  obtain ⟨M, s, ds, s', rl, hf, k⟩ := h
  unfold itT at hf
  simp only [Option.bind_eq_some_iff] at hf
  obtain ⟨⟨d1, s1⟩, h1, h2⟩ := hf
  dsimp only at h2
  split at h2
  · cases h2
    refine ⟨M, s, _, _, rl, h1, fun v H1 k1 r1 t1 => ?_⟩
    obtain ⟨a, xs, rfl, g1, g2⟩ := t1.tuple
    exact ⟨a, rfl, ⟨xs, g1⟩, k _ H1 k1 r1 (yields_tup t1)⟩
  · cases h2
theorem pis (h : PE X e (lft X.K Z fa)) : PI X tg e (lfI X.K Z (itS fa)) := PIimp (pi_str h) fun σ H R h => by
  obtain ⟨M, s, ds, s', rl, hf, k⟩ := h
  unfold itS at hf
  simp only [Option.bind_eq_some_iff] at hf
  obtain ⟨⟨d1, s1⟩, h1, h2⟩ := hf
  dsimp only at h2
  split at h2
  · rename_i x
    cases h2
    refine ⟨M, s, _, _, rl, h1, fun v H1 k1 r1 t1 => ?_⟩
    exact ⟨x, t1.text, k _ H1 k1 r1 (yields_str x)⟩
  · cases h2
theorem pir1 {p : Pos} (hg : Gl X "range") (hm : X.mg "range" = none) (h : PE X a (lft X.K Z fa)) (hs : starEach [a] X.env = [(false, eval a X.env)] := by rfl) : PI X tg (.Call (.Name "range" p) [a] [] pos) (lfI X.K Z (itR1 fa)) := PIimp (pi_range1 hg hm (pa_cons h pa_nil hs) hs) fun σ H R h => by
  obtain ⟨M, s, ds, s', rl, hf, k⟩ := h
  unfold itR1 at hf
  simp only [Option.bind_eq_some_iff] at hf
  obtain ⟨⟨d1, s1⟩, h1, h2⟩ := hf
  dsimp only at h2
  split at h2
  · rename_i n
    split at h2
    · rename_i hb
      cases h2
      refine ⟨M, s, _, _, rl, h1, fun v H1 k1 r1 t1 => ?_⟩
      refine ⟨n, by rw [t1.inti], hb.1, hb.2, ?_⟩
      have y : Yields X.K (Mu Z M) H1 (Itr 0 (n - 0).toNat) (rng 0 n) := yields_rng 0 n
      rw [show n - 0 = n from Int.sub_zero n] at y
      exact k _ H1 k1 r1 y
    · cases h2
  · cases h2
theorem pir2 {p : Pos} (hg : Gl X "range") (hm : X.mg "range" = none) (h : PE X a (lft X.K Z fa)) (h' : PE X b (lft X.K Z fb)) (hs : starEach [a, b] X.env = (false, eval a X.env) :: starEach [b] X.env := by rfl) (hs2 : starEach [b] X.env = [(false, eval b X.env)] := by rfl) : PI X tg (.Call (.Name "range" p) [a, b] [] pos) (lfI X.K Z (itR2 fa fb)) := PIimp (pi_range2 hg hm (pa_cons h (pa_cons h' pa_nil hs2) hs) (by rw [hs, hs2]) hs2) fun σ H R h => by
  obtain ⟨M, s, ds, s', rl, hf, k⟩ := h
  unfold itR2 at hf
  simp only [Option.bind_eq_some_iff] at hf
  obtain ⟨⟨d1, s1⟩, h1, ⟨d2, s2⟩, h2, h3⟩ := hf
  dsimp only at h2 h3
  split at h3
  · rename_i lo n
    split at h3
    · rename_i hb
      cases h3
      refine ⟨M, s, _, _, rl, h1, fun v H1 k1 r1 t1 => ⟨M, s1, _, _, r1, h2, fun w H2 k2 r2 t2 => ?_⟩⟩
      exact ⟨lo, n, by rw [t1.inti, t2.inti], ⟨hb.1.1, hb.1.2, hb.2.1, hb.2.2⟩, k _ H2 (k1.trans k2) r2 (yields_rng lo n)⟩
    · cases h3
  · cases h3
end

/-! ### targets -/
/-- a target stores what gd says -/
def TgOk (K : PySem.W.Frag) (g : TG) (gd : PyData → Sl → Option Sl) : Prop := ∀ (Z : Par) (M : List Addr) (σ : L2.St) (H : Hp) (s s' : Sl) (x : V) (d : PyData) (Q : L2.St → Hp → Prop), Rel K Z M σ H s → Dt K (Mu Z M) H x d → gd d s = some s' →
  (∀ M' σ', Rel K Z M' σ' H s' → Kq Z M H M' H → Q σ' H) → g x σ H Q
def tgN (i : Nat) : PyData → Sl → Option Sl := fun d s => some (s.set i (.dat d))
def tgTs : List (PyData → Sl → Option Sl) → List PyData → Sl → Option Sl
  | [], [], s => some s
  | g :: gs, d :: ds, s => (g d s).bind fun s' => tgTs gs ds s'
  | _, _, _ => none
def tgT (gs : List (PyData → Sl → Option Sl)) : PyData → Sl → Option Sl := fun d s => match d with
  | .tuple ds => tgTs gs ds s
  | _ => none
section
variable {K : PySem.W.Frag}
theorem tgn {i : Nat} : TgOk K (gName i) (tgN i) := fun Z M σ H s s' x d Q r t e k => by
  cases e
  obtain ⟨M', _, r2, k2⟩ := r.setDat t i
  exact k M' _ r2 k2
def TgsOk (K : PySem.W.Frag) (g : TGs) (gd : List PyData → Sl → Option Sl) : Prop := ∀ (Z : Par) (M : List Addr) (σ : L2.St) (H : Hp) (s s' : Sl) (xs : List V) (ds : List PyData) (Q : L2.St → Hp → Prop), Rel K Z M σ H s → DtAll K (Mu Z M) H xs ds → gd ds s = some s' →
  (∀ M' σ', Rel K Z M' σ' H s' → Kq Z M H M' H → Q σ' H) → g xs σ H Q
theorem tgsnil : TgsOk K gNil (tgTs []) := fun Z M σ H s s' xs ds Q r t e k => by
  cases ds with
  | nil => cases t; cases e; exact ⟨rfl, k M σ r (Kq.refl _ _ _)⟩
  | cons _ _ => cases e
theorem tgscons {g : TG} {gs : TGs} {gd : PyData → Sl → Option Sl} {gds : List (PyData → Sl → Option Sl)} (h : TgOk K g gd) (hs : TgsOk K gs (tgTs gds)) : TgsOk K (gCons g gs) (tgTs (gd :: gds)) := fun Z M σ H s s' xs ds Q r t e k => by
  cases ds with
  | nil => cases e
  | cons d ds =>
    cases t with
    | cons t1 t2 =>
      unfold tgTs at e
      simp only [Option.bind_eq_some_iff] at e
      obtain ⟨s1, e1, e2⟩ := e
      exact ⟨_, _, rfl, h Z M σ H s s1 _ d _ r t1 e1 fun M1 σ1 r1 k1 => hs Z M1 σ1 H s1 s' _ ds _ r1 (t2.mono k1.kp) e2 fun M2 σ2 r2 k2 => k M2 σ2 r2 (k1.trans k2)⟩
theorem tgTs_len : ∀ {gds : List (PyData → Sl → Option Sl)} {ds : List PyData} {s s' : Sl}, tgTs gds ds s = some s' → ds.length = gds.length
  | [], [], _, _, _ => rfl
  | [], _ :: _, _, _, e => by cases e
  | _ :: _, [], _, _, e => by cases e
  | g :: gs, d :: ds, s, s', e => by
    unfold tgTs at e
    simp only [Option.bind_eq_some_iff] at e
    obtain ⟨s1, _, e2⟩ := e
    rw [List.length_cons, List.length_cons, tgTs_len e2]
theorem tgt {n : Nat} {gs : TGs} {gds : List (PyData → Sl → Option Sl)} (hn : n = gds.length) (hs : TgsOk K gs (tgTs gds)) : TgOk K (gTup K n gs) (tgT gds) := fun Z M σ H s s' x d Q r t e k => by
  unfold tgT at e
  split at e
  · rename_i ds
    obtain ⟨a, xs, rfl, h1, h2⟩ := t.tuple
    exact ⟨a, xs, rfl, h1, by rw [h2.len, tgTs_len e, hn], hs Z M σ H s s' xs ds Q r h2 e k⟩
  · cases e
end

/-! ### for -/
def runFor (gd : PyData → Sl → Option Sl) (b : DS) : List PyData → Sl → Option Fl
  | [], s => some (.nx s)
  | d :: r, s => (gd d s).bind fun s1 => (b s1).bind fun fl => match fl with
    | .nx s' => runFor gd b r s'
    | .ct s' => runFor gd b r s'
    | .bk s' => some (.nx s')
    | .rt d s' => some (.rt d s')
def sFor (fi : DF) (gd : PyData → Sl → Option Sl) (b : DS) : DS := fun s => (fi s).bind fun p => runFor gd b p.1 p.2
def sAsg (f : DE) (gd : PyData → Sl → Option Sl) : DS := fun s => (f s).bind fun p => (gd p.1 p.2).map fun s' => .nx s'
section
variable {X : Cx} {Z : Par} {tg a b e : Expr} {es : List Expr} {pos : Pos} {fa fb fc : DE} {ff : DF} {ga : DA} {st : Stmt} {sts : List Stmt} {f : DS} {t : DT} {g : TG} {gd : PyData → Sl → Option Sl}
theorem lift_for {K : PySem.W.Frag} (hg : TgOk K g gd) {D : Ends} {σ : L2.St} {H : Hp} (h : lfS K Z (sFor ff gd f) D σ H) : tFor (lfI K Z ff) g (lfS K Z f) D σ H := by
  obtain ⟨M, s, fl, rl, hf, k⟩ := h
  unfold sFor at hf
  simp only [Option.bind_eq_some_iff] at hf
  obtain ⟨⟨ds, s1⟩, h1, h2⟩ := hf
  dsimp only at h2
  refine ⟨M, s, ds, s1, rl, h1, fun J H1 k1 r1 y => ?_⟩
  refine ⟨fun i m σ' H' => m = ds.length - i ∧ i ≤ ds.length ∧ ∃ M' s', Kq Z M H1 M' H' ∧ Rel K Z M' σ' H' s' ∧ runFor gd f (ds.drop i) s' = some fl, ⟨ds.length, by simp, Nat.zero_le _, M, s1, Kq.refl _ _ _, r1, h2⟩, ?_⟩
  rintro i m σ' H' ⟨rfl, hi, M', s', k2, r2, h3⟩
  by_cases hlt : i < ds.length
  · have ed : ds.drop i = ds[i] :: ds.drop (i + 1) := List.drop_eq_getElem_cons hlt
    rw [ed] at h3
    unfold runFor at h3
    simp only [Option.bind_eq_some_iff] at h3
    obtain ⟨s2, e1, fl1, e2, e3⟩ := h3
    refine .inr ⟨((y _ _ k2.kp i).1 hlt).1, fun σ3 H3 => ∃ M3 s3, Kq Z M H1 M3 H3 ∧ Rel K Z M3 σ3 H3 s3 ∧ runFor gd f (ds.drop (i + 1)) s3 = some fl, fun σ3 H3 q => ⟨ds.length - (i + 1), by omega, rfl, hlt, q⟩, fun x H'' hy => ?_⟩
    obtain ⟨rfl, d, e4, e5⟩ := ((y _ _ k2.kp i).1 hlt).2 x H'' hy
    rw [List.getElem?_eq_getElem hlt] at e4
    cases e4
    refine hg Z M' σ' _ s' s2 x _ _ r2 e5 e1 fun M3 σ3 r3 k3 => ?_
    refine ⟨M3, s2, fl1, r3, e2, ?_⟩
    have kk : Kq Z M H M3 _ := k1.trans (k2.trans k3)
    cases fl1 with
    | nx s4 => exact fun M4 σ4 H4 k4 r4 => ⟨M4, s4, k2.trans (k3.trans k4), r4, e3⟩
    | ct s4 => exact fun M4 σ4 H4 k4 r4 => ⟨M4, s4, k2.trans (k3.trans k4), r4, e3⟩
    | bk s4 => cases e3; exact fun M4 σ4 H4 k4 r4 => k M4 σ4 H4 (kk.trans k4) r4
    | rt d4 s4 => cases e3; exact fun M4 σ4 H4 v4 k4 r4 t4 => k M4 σ4 H4 v4 (kk.trans k4) r4 t4
  · have e : i = ds.length := by omega
    subst e
    rw [List.drop_length] at h3
    cases h3
    exact .inl ⟨(y _ _ k2.kp _).2 (Nat.le_refl _), k M' σ' H' (k1.trans k2) r2⟩
theorem sfor {iter : Expr} {body : List Stmt} (hp : PassesOwn (model X.prog X.w) X.A X.env X.xe) (hc : X.calm = true) (hi : PI X tg iter (lfI X.K Z ff)) (hg : PG X tg g) (hgd : TgOk X.K g gd) (hb : PSs X body (lfS X.K Z f))
    (hs : ∀ x, foldedSetIterable iter X.env x = pure x := by intro _; rfl) : PS X (.For tg iter body [] pos) (lfS X.K Z (sFor ff gd f)) := PSimp (ps_for hp hc hi hg hb hs) fun _ _ _ h => lift_for hgd h
/-- a, b = e -/
theorem sasg (he : PE X e (lft X.K Z fa)) (hg : PG X tg g) (hgd : TgOk X.K g gd) (hs : swapsWithSole [tg] e pos.line X.env = pure false := by rfl) (hw : swappedStores [tg] e X.env = pure none := by rfl)
    (h1 : (assignEach [tg] X.env).map (·.2) = [assign tg X.env] := by rfl) : PS X (.Assign [tg] e pos) (lfS X.K Z (sAsg fa gd)) := PSimp (ps_asg he hg hs hw h1) fun D σ H h => by
  obtain ⟨M, s, fl, rl, hf, k⟩ := h
  unfold sAsg at hf
  simp only [Option.bind_eq_some_iff, Option.map_eq_some_iff] at hf
  obtain ⟨⟨d, s1⟩, h1, s2, h2, h3⟩ := hf
  cases h3
  exact ⟨M, s, d, s1, rl, h1, fun v H1 k1 r1 t1 => hgd Z M σ H1 s1 s2 v d _ r1 t1 h2 fun M' σ' r2 k2 => k M' σ' H1 (k1.trans k2) r2⟩
/-- a, b = x, y -/
def sPar (i j : Nat) (f g : DE) : DS := fun s => (f s).bind fun p => (g p.2).map fun q => .nx ((q.2.set i (.dat p.1)).set j (.dat q.1))
theorem spar {i j : Nat} {x y : Str} {px py pt : Pos} {kt k2 pt2} (hc : X.calm = true) (hN : X.N.Nodup) (hi : X.N[i]? = some x) (hj : X.N[j]? = some y) (hij : i ≠ j)
    (hx : X.env.scope.names.lookup x = some .local) (hy : X.env.scope.names.lookup y = some .local) (ha : PE X a (lft X.K Z fa)) (hb : PE X b (lft X.K Z fb))
    (hw : swappedStores [.Tuple [.Name x px, .Name y py] kt pt] (.Tuple [a, b] k2 pt2) X.env = pure (some [x, y]))
    (hs : swapsWithSole [.Tuple [.Name x px, .Name y py] kt pt] (.Tuple [a, b] k2 pt2) pos.line X.env = pure false := by rfl) (hs1 : starEach [a, b] X.env = (false, eval a X.env) :: starEach [b] X.env := by rfl) (hs2 : starEach [b] X.env = (false, eval b X.env) :: starEach [] X.env := by rfl) :
    PS X (.Assign [.Tuple [.Name x px, .Name y py] kt pt] (.Tuple [a, b] k2 pt2) pos) (lfS X.K Z (sPar i j fa fb)) := PSimp (ps_par hc hN hi hj hij hx hy (pa_cons ha (pa_cons hb pa_nil hs2) hs1) hw hs) fun D σ H h => by
  obtain ⟨M, s, fl, rl, hf, k⟩ := h
  unfold sPar at hf
  simp only [Option.bind_eq_some_iff, Option.map_eq_some_iff] at hf
  obtain ⟨⟨d, s1⟩, h1, ⟨d2, s2⟩, h2, h3⟩ := hf
  cases h3
  refine ⟨M, s, d, s1, rl, h1, fun v H1 k1 r1 t1 => ⟨M, s1, d2, s2, r1, h2, fun w H2 k2 r2 t2 => ⟨v, w, rfl, ?_⟩⟩⟩
  obtain ⟨M3, _, r3, k3⟩ := r2.setDat (t1.mono k2.kp) i
  obtain ⟨M4, _, r4, k4⟩ := r3.setDat (t2.mono k3.kp) j
  exact k M4 _ H2 (k1.trans (k2.trans (k3.trans k4))) r4
end
end Dl

namespace Dl
open PySem PySem.Spec PyProof.Rows L2

/-! ### comprehensions, one name -/
def isNo : Option SV → Bool
  | some .no => true
  | _ => false
theorem isNo_eq {x : Option SV} (h : isNo x = true) : x = some .no := by
  unfold isNo at h
  split at h
  · rfl
  · cases h
def notOwn : Option SV → Bool
  | some (.own _) => false
  | some (.dic _) => false
  | _ => true
def NoOwn (x : Option SV) : Prop := (∀ ds, x ≠ some (.own ds)) ∧ (∀ c, x ≠ some (.dic c))
theorem notOwn_ne {x : Option SV} (h : notOwn x = true) : NoOwn x := ⟨fun ds e => (by rw [e] at h; cases h), fun c e => (by rw [e] at h; cases h)⟩
def lcRun (j : Nat) (t : DT) (f : DE) : List PyData → Sl → Option (List PyData × Sl)
  | [], s => some ([], s)
  | d :: r, s => (t (s.set j (.dat d))).bind fun p => if notOwn p.2[j]? = true then (if p.1 = true then (f p.2).bind fun q => if notOwn q.2[j]? = true then (lcRun j t f r q.2).map fun w => (q.1 :: w.1, w.2) else none else lcRun j t f r p.2) else none
/-- the comprehension's slot j; what a turn leaves there is forgotten -/
def fLc (fi : DF) (j : Nat) (t : DT) (f : DE) : DF := fun s => (fi s).bind fun p => if isNo p.2[j]? = true ∧ p.1.length < sizeLine then (lcRun j t f p.1 p.2).map fun q => (q.1, q.2.set j .no) else none
def tYesD : DT := fun s => some (true, s)
section
variable {K : PySem.W.Frag} {Z : Par} {M M' : List Addr} {σ : L2.St} {H H' : Hp} {s s' : Sl} {p : Addr} {mu : Addr → Prop} {q : Option Addr}
/-- a slot of which nothing is known may hold anything -/
theorem SlAll.anyNo {x : Option V} : ∀ {σ : L2.St} {s : Sl} {M : List Addr} (j : Nat), SlAll K mu q H σ s M → s[j]? = some .no → SlAll K mu q H (σ.set j x) s M
  | _, _, _, _, .nil, e => by simp at e
  | _, _, _, 0, .dat h t, e => by simp at e
  | _, _, _, 0, .no t, e => .no t
  | _, _, _, 0, .own h d n t, e => by simp at e
  | _, _, _, 0, .pot e0 h d t, e => by simp at e
  | _, _, _, j + 1, .dat h t, e => .dat h (SlAll.anyNo j t (by simpa using e))
  | _, _, _, j + 1, .no t, e => .no (SlAll.anyNo j t (by simpa using e))
  | _, _, _, j + 1, .own h d n t, e => .own h d n (SlAll.anyNo j t (by simpa using e))
  | _, _, _, j + 1, .pot e0 h d t, e => .pot e0 h d (SlAll.anyNo j t (by simpa using e))
  | _, _, _, 0, .tab .., e => by simp at e
  | _, _, _, j + 1, .tab e0 h d f t, e => .tab e0 h d f (SlAll.anyNo j t (by simpa using e))
  | _, _, _, 0, .dic h n t, e => by simp at e
  | _, _, _, j + 1, .dic h n t, e => .dic h n (SlAll.anyNo j t (by simpa using e))
/-- .. a slot is forgotten (no list of its own) -/
theorem SlAll.forget {x : Option V} : ∀ {σ : L2.St} {s : Sl} {M : List Addr} (j : Nat), SlAll K mu q H σ s M → NoOwn s[j]? → SlAll K mu q H (σ.set j x) (s.set j .no) M
  | _, _, _, _, .nil, e => .nil
  | _, _, _, 0, .dat h t, e => .no t
  | _, _, _, 0, .no t, e => .no t
  | _, _, _, 0, .own h d n t, e => absurd rfl (e.1 _)
  | _, _, _, 0, .pot e0 h d t, e => .no t
  | _, _, _, j + 1, .dat h t, e => .dat h (SlAll.forget j t (by simpa using e))
  | _, _, _, j + 1, .no t, e => .no (SlAll.forget j t (by simpa using e))
  | _, _, _, j + 1, .own h d n t, e => .own h d n (SlAll.forget j t (by simpa using e))
  | _, _, _, j + 1, .pot e0 h d t, e => .pot e0 h d (SlAll.forget j t (by simpa using e))
  | _, _, _, 0, .tab e0 h d f t, e => .no t
  | _, _, _, j + 1, .tab e0 h d f t, e => .tab e0 h d f (SlAll.forget j t (by simpa using e))
  | _, _, _, 0, .dic h n t, e => absurd rfl (e.2 _)
  | _, _, _, j + 1, .dic h n t, e => .dic h n (SlAll.forget j t (by simpa using e))
theorem SlAll.putDat {v : V} {d : PyData} (hv : Dt K mu H v d) : ∀ {σ : L2.St} {s : Sl} {M : List Addr} (j : Nat), SlAll K mu q H σ s M → NoOwn s[j]? → SlAll K mu q H (σ.set j (some v)) (s.set j (.dat d)) M
  | _, _, _, _, .nil, e => .nil
  | _, _, _, 0, .dat h t, e => .dat hv t
  | _, _, _, 0, .no t, e => .dat hv t
  | _, _, _, 0, .own h d n t, e => absurd rfl (e.1 _)
  | _, _, _, 0, .pot e0 h d t, e => .dat hv t
  | _, _, _, j + 1, .dat h t, e => .dat h (SlAll.putDat hv j t (by simpa using e))
  | _, _, _, j + 1, .no t, e => .no (SlAll.putDat hv j t (by simpa using e))
  | _, _, _, j + 1, .own h d n t, e => .own h d n (SlAll.putDat hv j t (by simpa using e))
  | _, _, _, j + 1, .pot e0 h d t, e => .pot e0 h d (SlAll.putDat hv j t (by simpa using e))
  | _, _, _, 0, .tab e0 h d f t, e => .dat hv t
  | _, _, _, j + 1, .tab e0 h d f t, e => .tab e0 h d f (SlAll.putDat hv j t (by simpa using e))
  | _, _, _, 0, .dic h n t, e => absurd rfl (e.2 _)
  | _, _, _, j + 1, .dic h n t, e => .dic h n (SlAll.putDat hv j t (by simpa using e))
theorem Rel.withSl (r : Rel K Z M σ H s) {σ' : L2.St} {s' : Sl} (h : SlAll K (Mu Z M) Z.p H σ' s' M) : Rel K Z M σ' H s' := ⟨r.base, r.fr, r.mz, r.pt, h⟩
theorem set_no {s : Sl} {j : Nat} (h : s[j]? = some .no) : s.set j .no = s := by
  apply List.ext_getElem?
  intro i
  by_cases e : i = j
  · subst e
    have hl : i < s.length := (List.getElem?_eq_some_iff.mp h).1
    rw [List.getElem?_set_self hl, h]
  · rw [List.getElem?_set_ne (Ne.symm e)]
end
section
variable {X : Cx} {Z : Par} {tg a b e : Expr} {es : List Expr} {pos : Pos} {fa fb fc : DE} {ff : DF} {ga : DA} {st : Stmt} {sts : List Stmt} {f : DS} {t : DT} {g : TG} {gd : PyData → Sl → Option Sl}
theorem wipe1 (σ : L2.St) (j : Nat) : wipe σ [j] = σ.set j none := rfl
theorem lift_lc {K : PySem.W.Frag} {j : Nat} {σ : L2.St} {H : Hp} {Q : VK} {T : TT} {E : TE} (hT : ∀ Z σ H Q, lfT K Z t σ H Q → T σ H Q) (hE : ∀ Z σ H Q, lft K Z fa σ H Q → E σ H Q) (h : lfF K Z (fLc ff j t fa) σ H Q) : tLc (lfI K Z ff) (gName j) T E [j] σ H Q := by
  obtain ⟨M, s, ds, s', rl, hf, k⟩ := h
  unfold fLc at hf
  simp only [Option.bind_eq_some_iff] at hf
  obtain ⟨⟨is, s1⟩, h1, h2⟩ := hf
  dsimp only at h2
  split at h2
  · rename_i hc
    simp only [Option.map_eq_some_iff] at h2
    obtain ⟨⟨os, s2⟩, h2, h3⟩ := h2
    cases h3
    have hc1 := isNo_eq hc.1
    refine ⟨M, s, is, s1, rl, h1, fun J H1 k1 r1 y D hD => ?_⟩
    have hD0 : H D = none := by
      cases q : H D with
      | none => rfl
      | some o =>
        by_cases m : Mu Z M D
        · obtain ⟨u, e⟩ := r1.muT D m
          rw [hD] at e; cases e
        · have := (k1.kp D o q m).1
          rw [hD] at this; cases this
    have npp : Z.p ≠ some D := fun z => by
      obtain ⟨o, e⟩ := r1.pt D z
      rw [hD] at e; cases e
    have nDM : D ∉ M := fun z => by
      obtain ⟨_, _, _, o, e⟩ := r1.fr D z
      rw [hD] at e; cases e
    have n0 : Z.H0 D = none := by
      cases q : Z.H0 D with
      | none => rfl
      | some o =>
        have := r1.base D o q npp
        rw [hD] at this; cases this
    have y1 : Yields K (Mu (Z.add D) M) (upd H1 D (.lst [])) J is := y.mono (kp_addNew hD _)
    -- all that stood, but D, stands
    let Kd : Hp → Prop := fun H' => ∀ a o, H1 a = some o → Z.p ≠ some a → a ∉ M → H' a = some o
    have kdy : ∀ {H'}, Kd H' → Kp (Mu Z M) H1 (Mu (Z.add D) M) H' := fun {H'} q a o e n => ⟨q a o e (fun z => n (.inr (.inl z))) (fun z => n (.inr (.inr z))), fun z => (mu_add.mp z).elim n (ne_of_none e hD)⟩
    let Wv : Nat → Hp → Prop := fun i H' => ∃ sw acc dacc rest, Kd H' ∧ Rel K (Z.add D) M σ H' (sw.set j .no) ∧ NoOwn sw[j]? ∧
      H' D = some (.lst acc) ∧ DtAll K (Mu (Z.add D) M) H' acc dacc ∧ dacc.length ≤ i ∧ lcRun j t fa (is.drop i) sw = some (rest, s2) ∧ os = dacc ++ rest
    refine ⟨fun i m H' => m = is.length - i ∧ i ≤ is.length ∧ Wv i H', ⟨is.length, by simp, Nat.zero_le _, s1, [], [], os, fun a o e _ _ => grow_new hD a o e, ?_, ?_, upd_same, .nil, Nat.le_refl _, h2, rfl⟩, ?_⟩
    · rw [set_no hc1]
      exact r1.addNew hD _
    · exact ⟨fun ds hh => (by rw [hc1] at hh; cases hh), fun ds hh => (by rw [hc1] at hh; cases hh)⟩
    rintro i m H' ⟨rfl, hi, sw, acc, dacc, rest, k2, r2, hsw, e1, e2, e3, e4, e5⟩
    by_cases hlt : i < is.length
    · have ed : is.drop i = is[i] :: is.drop (i + 1) := List.drop_eq_getElem_cons hlt
      rw [ed] at e4
      unfold lcRun at e4
      simp only [Option.bind_eq_some_iff] at e4
      obtain ⟨⟨b, s3⟩, e6, e7⟩ := e4
      dsimp only at e7
      split at e7
      case isFalse => cases e7
      rename_i n3
      refine .inr ⟨((y _ _ (kdy k2) i).1 hlt).1, Wv (i + 1), fun H3 q => ⟨is.length - (i + 1), by omega, rfl, hlt, q⟩, fun x H'' hy => ?_⟩
      obtain ⟨rfl, d, e8, e9⟩ := ((y _ _ (kdy k2) i).1 hlt).2 x H'' hy
      rw [List.getElem?_eq_getElem hlt] at e8
      cases e8
      refine ⟨by rw [wipe1, wipe1, List.set_set, List.set_set], ?_⟩
      have r3 : Rel K (Z.add D) M ((wipe σ [j]).set j (some x)) H'' (sw.set j (.dat is[i])) := by
        have q := (r2.sl.putDat e9 j ⟨(by
          intro ds hh
          by_cases hl : j < sw.length
          · rw [List.getElem?_set_self hl] at hh; cases hh
          · rw [List.getElem?_eq_none (by simpa using hl)] at hh; cases hh), (by
          intro ds hh
          by_cases hl : j < sw.length
          · rw [List.getElem?_set_self hl] at hh; cases hh
          · rw [List.getElem?_eq_none (by simpa using hl)] at hh; cases hh)⟩)
        rw [List.set_set] at q
        refine r2.withSl ?_
        rw [wipe1, List.set_set]
        exact q
      have back : ∀ {H4 : Hp} {s4 : Sl}, Rel K (Z.add D) M ((wipe σ [j]).set j (some x)) H4 s4 → NoOwn s4[j]? → Rel K (Z.add D) M σ H4 (s4.set j .no) := fun {H4 s4} r4 hs4 => by
        have q := r4.sl.forget (x := σ[j]?.join) j hs4
        refine r4.withSl ?_
        rw [wipe1, List.set_set, List.set_set] at q
        have e : σ.set j (σ[j]?.join) = σ := by
          apply List.ext_getElem?
          intro i'
          by_cases e : i' = j
          · subst e
            by_cases hl : i' < σ.length
            · rw [List.getElem?_set_self hl, List.getElem?_eq_getElem hl]; rfl
            · rw [List.getElem?_eq_none (by simpa using hl), List.getElem?_eq_none (by simpa using hl)]
          · rw [List.getElem?_set_ne (Ne.symm e)]
        rw [e] at q
        exact q
      refine hT (Z.add D) _ _ _ ⟨M, _, b, s3, r3, e6, fun H4 k4 r4 => ?_⟩
      have eD4 : H4 D = some (.lst acc) := (k4 D _ e1 npp nDM).1
      have kd4 : Kd H4 := fun a o e n1 n2 => (k4 a o (k2 a o e n1 n2) n1 n2).1
      cases b with
      | true =>
        rw [if_pos rfl] at e7
        simp only [Option.bind_eq_some_iff] at e7
        obtain ⟨⟨d2, s4⟩, e10, e11⟩ := e7
        dsimp only at e11
        split at e11
        case isFalse => cases e11
        rename_i n4
        simp only [Option.map_eq_some_iff] at e11
        obtain ⟨⟨w, s5⟩, e11, e12⟩ := e11
        cases e12
        refine iteT ?_
        refine hE (Z.add D) _ _ _ ⟨M, s3, d2, s4, r4, e10, fun v H5 k5 r5 t5 => ?_⟩
        have eD5 : H5 D = some (.lst acc) := (k5 D _ eD4 npp nDM).1
        have nm : Mu (Z.add D) M D := .inl (.inr rfl)
        have kw : Kp (Mu (Z.add D) M) H5 (Mu (Z.add D) M) (upd H5 D (.lst (acc ++ [v]))) := fun a u e n => ⟨by
          have na : a ≠ D := fun z => n (by rw [z]; exact nm)
          rw [upd_ne na]; exact e, n⟩
        have lacc := e2.len
        refine ⟨acc, eD5, by omega, s4, acc ++ [v], dacc ++ [d2], w, fun a o e n1 n2 => ?_, (back r5 (notOwn_ne n4)).wrAdd npp _ n0, notOwn_ne n4, upd_same, ((e2.mono (k4.kp.trans k5.kp)).append (.cons t5 .nil)).mono kw, by rw [List.length_append]; exact Nat.succ_le_succ e3, e11, by rw [e5, List.append_assoc]; rfl⟩
        have na : a ≠ D := ne_of_none e hD
        rw [upd_ne na]
        exact (k5 a o (kd4 a o e n1 n2) n1 n2).1
      | false =>
        rw [if_neg (by simp)] at e7
        refine iteF ?_
        exact ⟨s3, acc, dacc, rest, kd4, back r4 (notOwn_ne n3), notOwn_ne n3, eD4, e2.mono k4.kp, by omega, e7, e5⟩
    · have e : i = is.length := by omega
      subst e
      rw [List.drop_length] at e4
      cases e4
      rw [List.append_nil] at e5
      subst e5
      refine .inl ⟨(y _ _ (kdy k2) _).2 (Nat.le_refl _), ?_⟩
      exact k D acc H' hD0 e1 (fun a o e n1 n2 => ⟨k2 a o (k1 a o e n1 n2).1 n1 n2, n2⟩) r2 e2
  · cases h2
theorem flc {elt iter : Expr} {x : Str} {px : Pos} {ifs : List Expr} {scope : Scope} {j : Nat} (hc : X.calm = true) (hN : X.N.Nodup) (hi : PI X (.Name x px) iter (lfI X.K Z ff)) (ok : BlkOk X.N X.env.scope scope [(x, j)])
    (hg : ∀ (s : Shared) (H : Hp) (C : Addr) (cl : List (Str × Addr)) (fp : List Addr), PG (X.blk s H scope (compEnvC scope cl C X.env) fp) (.Name x px) (gName j))
    (ht : ∀ (s : Shared) (H : Hp) (C : Addr) (cl : List (Str × Addr)) (fp : List Addr) (Z : Par), PTs (X.blk s H scope (compEnvC scope cl C X.env) fp) ifs (lfT X.K Z t))
    (he : ∀ (s : Shared) (H : Hp) (C : Addr) (cl : List (Str × Addr)) (fp : List Addr) (Z : Par), PE (X.blk s H scope (compEnvC scope cl C X.env) fp) elt (lft X.K Z fa)) (hs : ∀ x, foldedSetIterable iter X.env x = pure x := by intro _; rfl) :
    PE X (.ListComp elt [⟨.Name x px, iter, ifs, 0⟩] scope pos) (lfF X.K Z (fLc ff j t fa)) :=
  PEimp (pe_lc hc hN hi ok hg (tt := fun σ H Q => ∃ Z, lfT X.K Z t σ H Q) (te := fun σ H Q => ∃ Z, lft X.K Z fa σ H Q)
    (fun s H0 C cl fp => ⟨fun pins s' σ H Q I ⟨Z, q⟩ => (ht s H0 C cl fp Z).run pins s' σ H Q I q⟩) (fun s H0 C cl fp => ⟨fun pins s' σ H Q I ⟨Z, q⟩ => (he s H0 C cl fp Z).run pins s' σ H Q I q⟩) hs) fun σ H Q h => lift_lc (fun Z _ _ _ q => ⟨Z, q⟩) (fun Z _ _ _ q => ⟨Z, q⟩) h
theorem tynil : PTs X [] (lfT X.K Z tYesD) := ⟨fun pins s σ H Q I h => pts_nil.run pins s σ H Q I (by
  obtain ⟨M, s, c, s', rl, hf, k⟩ := h
  cases hf
  exact k H (Kq.refl _ _ _) rl)⟩
end
end Dl

namespace Dl
open PySem PySem.Spec PyProof.Rows L2

/-! ### promises: a function of data; one that changes the list handed in first; one that makes a list which nobody else has -/
def spP (K : PySem.W.Frag) (m : List PyData → Option PyData) : Sp := fun vs H Q _ => ∃ mu ds d, (∀ a, mu a → ∃ o, H a = some o) ∧ DtAll K mu H vs ds ∧ m ds = some d ∧
  ∀ v H', (∀ a o, H a = some o → H' a = some o) → Dt K mu H' v d → Q v H'
def spM (K : PySem.W.Frag) (m : List PyData → List PyData → Option (PyData × List PyData)) : Sp := fun vs H Q _ => ∃ mu p xs pd rest ds d pd', vs = .ref p :: rest ∧ mu p ∧ (∀ a, mu a → ∃ o, H a = some o) ∧ H p = some (.lst xs) ∧ DtAll K mu H xs pd ∧ DtAll K mu H rest ds ∧
  m pd ds = some (d, pd') ∧ ∀ v H' xs', (∀ a o, H a = some o → a ≠ p → H' a = some o) → H' p = some (.lst xs') → DtAll K mu H' xs' pd' → Dt K mu H' v d → Q v H'
def spF (K : PySem.W.Frag) (m : List PyData → Option (List PyData)) : Sp := fun vs H Q _ => ∃ mu ds es, (∀ a, mu a → ∃ o, H a = some o) ∧ DtAll K mu H vs ds ∧ m ds = some es ∧
  ∀ p xs H', H p = none → (∀ a o, H a = some o → H' a = some o) → H' p = some (.lst xs) → DtAll K (fun a => mu a ∨ a = p) H' xs es → Q (.ref p) H'

def dCall (m : List PyData → Option PyData) (g : DA) : DE := fun s => (g s).bind fun p => (m p.1).map fun d => (d, p.2)
def dCallM (m : List PyData → List PyData → Option (PyData × List PyData)) (i : Nat) (g : DA) : DE := fun s => (contents s i).bind fun _ => (g s).bind fun p => (contents p.2 i).bind fun pd => (m pd p.1).map fun q => (q.1, setC p.2 i q.2)
def fCall (m : List PyData → Option (List PyData)) (g : DA) : DF := fun s => (g s).bind fun p => (m p.1).map fun d => (d, p.2)
section
variable {X : Cx} {Z : Par} {a b e : Expr} {es : List Expr} {pos : Pos} {fa fb fc : DE} {ff : DF} {ga : DA} {k : Nat} {f : Addr} {fd : FuncData} {ps : List Str} {x : Str} {p : Pos} {E : XK}
theorem lift_call {K : PySem.W.Frag} {m : List PyData → Option PyData} {σ : L2.St} {H : Hp} {Q : VK} (h : lft K Z (dCall m ga) σ H Q) : tCall (spP K m) [] E (lfA K Z ga) σ H Q := by
  obtain ⟨M, s, d, s', rl, hf, k⟩ := h
  unfold dCall at hf
  simp only [Option.bind_eq_some_iff, Option.map_eq_some_iff] at hf
  obtain ⟨⟨ds, s1⟩, h1, d1, h2, h3⟩ := hf
  cases h3
  refine ⟨M, s, ds, _, rl, h1, fun vs H1 k1 r1 t1 => ?_⟩
  show spP K m (vs ++ []) H1 Q E
  rw [List.append_nil]
  exact ⟨Mu Z M, ds, _, r1.muT, t1, h2, fun v H2 g2 t2 => k v H2 (k1.trans (kq_grow g2)) (r1.grow g2) t2⟩
theorem dcall {m : List PyData → Option PyData} (F : FnOk X.prog X.w X.K X.mg X.base CX0 k f fd ps (spP X.K m)) (hr : Room k X.A) (hg : Gl X x) (hm : X.mg x = some (.ref f)) (hk : PySem.W.keepIn X.K (.ref f) = true) (hb : Binds X.K fd ps []) (ha : PA X (e :: es) (lfA X.K Z ga)) (hx : Passes CX0 X E0 := by exact pass0)
    (hdb : (x == ("__debug__" : Str)) = false := by decide) (he : starEach (e :: es) X.env = (false, eval e X.env) :: starEach es X.env := by rfl) (hpl : (backTo pos (starEach es X.env)).any (·.1) = false := by rfl) :
    PE X (.Call (.Name x p) (e :: es) [] pos) (lft X.K Z (dCall m ga)) := PEimp (pe_call F hr hg hm hk hb .nil hx ha hdb he hpl) fun _ _ _ h => lift_call h
theorem dcall0 {m : List PyData → Option PyData} (F : FnOk X.prog X.w X.K X.mg X.base CX0 k f fd ps (spP X.K m)) (hr : Room k X.A) (hg : Gl X x) (hm : X.mg x = some (.ref f)) (hk : PySem.W.keepIn X.K (.ref f) = true) (hb : Binds X.K fd ps []) (hx : Passes CX0 X E0 := by exact pass0)
    (hdb : (x == ("__debug__" : Str)) = false := by decide) : PE X (.Call (.Name x p) [] [] pos) (lft X.K Z (dCall m aNil)) := PEimp (pe_call0 F hr hg hm hk hb .nil hx hdb) fun σ H Q h => by
  have q := lift_call (E := E0) h
  obtain ⟨M, s, d, s', rl, hf, k⟩ := q
  cases hf
  exact k [] H (Kq.refl _ _ _) rl .nil
theorem lift_callM {K : PySem.W.Frag} {m : List PyData → List PyData → Option (PyData × List PyData)} {i : Nat} {σ : L2.St} {H : Hp} {Q : VK} (h : lft K Z (dCallM m i ga) σ H Q) : tCall (spM K m) [] E (tCons (tVar i) (lfA K Z ga)) σ H Q := by
  obtain ⟨M, s, d, s', rl, hf, k⟩ := h
  unfold dCallM at hf
  simp only [Option.bind_eq_some_iff, Option.map_eq_some_iff] at hf
  obtain ⟨pd0, h0, ⟨ds, s1⟩, h1, pd, h2, ⟨d1, pd1⟩, h3, h4⟩ := hf
  cases h4
  obtain ⟨a0, xs0, g1, _⟩ := rl.at h0
  refine ⟨.ref a0, g1, M, s, ds, s1, rl, h1, fun vs H1 k1 r1 t1 => ?_⟩
  show spM K m ((V.ref a0 :: vs) ++ []) H1 Q E
  rw [List.append_nil]
  obtain ⟨a1, xs, e1, e2, e3, e4, e5⟩ := r1.at h2
  rw [g1] at e1
  cases e1
  refine ⟨Mu Z M, a0, xs, pd, vs, ds, _, pd1, rfl, e4, r1.muT, e2, e3, t1, h3, fun v H2 xs2 g2 g3 t2 t3 => ?_⟩
  obtain ⟨r2, k2⟩ := e5 H2 xs2 pd1 g3 g2 t2
  exact k v H2 (k1.trans k2) r2 t3
/-- f(x, ..), x a list that f may change -/
theorem dcallM {m : List PyData → List PyData → Option (PyData × List PyData)} (i : Nat) (F : FnOk X.prog X.w X.K X.mg X.base CX0 k f fd ps (spM X.K m)) (hr : Room k X.A) (hg : Gl X x) (hm : X.mg x = some (.ref f)) (hk : PySem.W.keepIn X.K (.ref f) = true) (hb : Binds X.K fd ps []) (h1 : PE X e (tVar i)) (ha : PA X es (lfA X.K Z ga)) (hx : Passes CX0 X E0 := by exact pass0)
    (hdb : (x == ("__debug__" : Str)) = false := by decide) (he : starEach (e :: es) X.env = (false, eval e X.env) :: starEach es X.env := by rfl) (hpl : (backTo pos (starEach es X.env)).any (·.1) = false := by rfl) :
    PE X (.Call (.Name x p) (e :: es) [] pos) (lft X.K Z (dCallM m i ga)) := PEimp (pe_call F hr hg hm hk hb .nil hx (pa_cons h1 ha he) hdb he hpl) fun _ _ _ h => lift_callM h
/-- .. of a function that makes a list of its own -/
theorem fcall {m : List PyData → Option (List PyData)} (F : FnOk X.prog X.w X.K X.mg X.base CX0 k f fd ps (spF X.K m)) (hr : Room k X.A) (hg : Gl X x) (hm : X.mg x = some (.ref f)) (hk : PySem.W.keepIn X.K (.ref f) = true) (hb : Binds X.K fd ps []) (ha : PA X (e :: es) (lfA X.K Z ga)) (hx : Passes CX0 X E0 := by exact pass0)
    (hdb : (x == ("__debug__" : Str)) = false := by decide) (he : starEach (e :: es) X.env = (false, eval e X.env) :: starEach es X.env := by rfl) (hpl : (backTo pos (starEach es X.env)).any (·.1) = false := by rfl) :
    PE X (.Call (.Name x p) (e :: es) [] pos) (lfF X.K Z (fCall m ga)) := PEimp (pe_call F hr hg hm hk hb .nil hx ha hdb he hpl) fun σ H Q h => by
  obtain ⟨M, s, d, s', rl, hf, k⟩ := h
  unfold fCall at hf
  simp only [Option.bind_eq_some_iff, Option.map_eq_some_iff] at hf
  obtain ⟨⟨ds, s1⟩, h1, d1, h2, h3⟩ := hf
  cases h3
  refine ⟨M, s, ds, _, rl, h1, fun vs H1 k1 r1 t1 => ?_⟩
  show spF X.K m (vs ++ []) H1 Q E0
  rw [List.append_nil]
  refine ⟨Mu Z M, ds, _, r1.muT, t1, h2, fun q xs H2 hq g2 g3 t2 => ?_⟩
  have hq0 : H q = none := by
    cases w : H q with
    | none => rfl
    | some o =>
      by_cases m : Mu Z M q
      · obtain ⟨u, e⟩ := r1.muT q m
        rw [hq] at e; cases e
      · have := (k1.kp q o w m).1
        rw [hq] at this; cases this
  have kp2 : Kp (fun a => Mu Z M a ∨ a = q) H2 (Mu (Z.add q) M) H2 := fun a o e n => ⟨e, fun z => n (mu_add.mp z)⟩
  -- the state behind: all stood ahead of q
  have r2 : Rel X.K (Z.add q) M σ H2 s1 := by
    have kq : Kp (Mu Z M) H1 (Mu (Z.add q) M) H2 := fun a o e n => ⟨g2 a o e, fun z => (mu_add.mp z).elim n (ne_of_none e hq)⟩
    refine ⟨fun a o e n => g2 a o (r1.base a o e n), fun a ha => ?_, fun a ha => ?_, fun a ha => let ⟨o, e⟩ := r1.pt a ha; ⟨o, g2 a o e⟩, ?_⟩
    · obtain ⟨f1, f2, f3, o, f4⟩ := r1.fr a ha
      exact ⟨f1, f2, fun z => z.elim f3 (ne_of_none f4 hq), o, g2 a o f4⟩
    · rcases ha with ha | ha
      · obtain ⟨o, e⟩ := r1.mz a ha
        exact ⟨o, g2 a o e⟩
      · rw [ha]; exact ⟨_, g3⟩
    · exact r1.sl.kp kq (M := M) (fun a xs _ e => g2 _ _ e) (fun a xs _ e => g2 _ _ e) (fun _ h => h)
  exact k q xs H2 hq0 g3 (k1.trans (kq_grow g2)) r2 (t2.mono kp2)
end

/-! ### defs -/
def startS (N : List Str) (ds : List PyData) : Sl := ds.map SV.dat ++ List.replicate (N.length - ds.length) .no
def startM (N : List Str) (pd ds : List PyData) : Sl := SV.pot pd :: (ds.map SV.dat ++ List.replicate (N.length - 1 - ds.length) .no)
def outP : Option Fl → Option PyData
  | some (.rt d _) => some d
  | some (.nx _) => some .none
  | _ => none
def potOf : Option SV → Option (List PyData)
  | some (.pot pd) => some pd
  | _ => none
theorem potOf_eq {x : Option SV} {pd : List PyData} (h : potOf x = some pd) : x = some (.pot pd) := by
  unfold potOf at h
  split at h
  · cases h; rfl
  · cases h
def outM : Option Fl → Option (PyData × List PyData)
  | some (.rt d s) => (potOf s[0]?).map fun pd => (d, pd)
  | some (.nx s) => (potOf s[0]?).map fun pd => (.none, pd)
  | _ => none
/-- the meaning of a def by its body's -/
def fnP (N : List Str) (n : Nat) (b : DS) : List PyData → Option PyData := fun ds => if ds.length = n then outP (b (startS N ds)) else none
def fnM (N : List Str) (n : Nat) (b : DS) : List PyData → List PyData → Option (PyData × List PyData) := fun pd ds => if ds.length + 1 = n then outM (b (startM N pd ds)) else none
section
variable {P : Program} {w : World} {K : PySem.W.Frag} {mg : Str → Option Value} {base : Heap}
theorem slAll_nos {mu : Addr → Prop} {q : Option Addr} {H : Hp} : ∀ n : Nat, SlAll K mu q H (List.replicate n none) (List.replicate n .no) []
  | 0 => .nil
  | n + 1 => .no (slAll_nos n)
theorem slAll_start {mu : Addr → Prop} {q : Option Addr} {H : Hp} (n : Nat) : ∀ {vs : List V} {ds : List PyData}, DtAll K mu H vs ds → SlAll K mu q H (vs.map some ++ List.replicate n none) (ds.map SV.dat ++ List.replicate n .no) []
  | _, _, .nil => slAll_nos n
  | _, _, .cons h t => .dat h (slAll_start n t)
/-- a def of data -/
theorem okP {x qual : Str} {st : Stmt} {f : Addr} {fd : FuncData} {N ps : List Str} {k : Nat} {b : DS} (F : Fun K x qual st f fd) (S : FnScope N ps (defScope st))
    (hb : ∀ (cdv : Value) (A : Around) (outer : List Env) (s : Shared) (H : Hp) (E : XK) (Z : Par), Room k (A.deeper (envOfC qual (defScope st) s.heap.objs.size f cdv)) → PSs (cxOf CX0 P w K mg base N qual (defScope st) f cdv A outer s H E).nox (defBody st) (lfS K Z b)) :
    FnOk P w K mg base CX0 (k + 1) f fd ps (spP K (fnP N ps.length b)) := by
  refine F.ok S (fun vs H Q E h => ?_) (fun cdv A outer s H vs Q E hr h => ?_)
  · obtain ⟨mu, ds, d, h1, h2, h3, h4⟩ := h
    unfold fnP at h3
    split at h3
    · rename_i hl
      rw [h2.len]; exact hl
    · cases h3
  · obtain ⟨mu, ds, d, h1, h2, h3, h4⟩ := h
    unfold fnP at h3
    split at h3
    case isFalse => cases h3
    rename_i hl
    let Z : Par := ⟨H, none, mu⟩
    refine ⟨_, hb cdv A outer s H E Z hr, [], startS N ds, ?_⟩
    have muE : ∀ a, Mu Z [] a → mu a := fun a q => by
      rcases q with q | q | q
      · exact q
      · cases q
      · cases q
    have r : Rel K Z [] (start N vs) H (startS N ds) := by
      refine ⟨fun a o e _ => e, fun a ha => (by cases ha), h1, fun a ha => (by cases ha), ?_⟩
      unfold startS L2.start
      rw [h2.len]
      exact slAll_start _ (h2.mono fun a o e n => ⟨e, fun z => n (muE a z)⟩)
    unfold outP at h3
    split at h3
    · rename_i d1 s1 hq
      cases h3
      refine ⟨_, r, hq, fun M σ H1 v k1 r1 t1 => h4 v H1 (fun a o e => r1.base a o e (fun z => by cases z)) (t1.mono fun a o e n => ⟨e, fun z => n (.inl z)⟩)⟩
    · rename_i s1 hq
      cases h3
      refine ⟨_, r, hq, fun M σ H1 k1 r1 => h4 _ H1 (fun a o e => r1.base a o e (fun z => by cases z)) .non⟩
    · cases h3
/-- a def that changes the list handed in first -/
theorem okM {x qual : Str} {st : Stmt} {f : Addr} {fd : FuncData} {N ps : List Str} {k : Nat} {b : DS} (F : Fun K x qual st f fd) (S : FnScope N ps (defScope st))
    (hb : ∀ (cdv : Value) (A : Around) (outer : List Env) (s : Shared) (H : Hp) (E : XK) (Z : Par), Room k (A.deeper (envOfC qual (defScope st) s.heap.objs.size f cdv)) → PSs (cxOf CX0 P w K mg base N qual (defScope st) f cdv A outer s H E).nox (defBody st) (lfS K Z b)) :
    FnOk P w K mg base CX0 (k + 1) f fd ps (spM K (fnM N ps.length b)) := by
  refine F.ok S (fun vs H Q E h => ?_) (fun cdv A outer s H vs Q E hr h => ?_)
  · obtain ⟨mu, p, xs, pd, rest, ds, d, pd', rfl, h0, h1, h2, h3, h4, h5, h6⟩ := h
    unfold fnM at h5
    split at h5
    · rename_i hl
      rw [List.length_cons, h4.len]; exact hl
    · cases h5
  · obtain ⟨mu, p, xs, pd, rest, ds, d, pd', rfl, h0, h1, h2, h3, h4, h5, h6⟩ := h
    unfold fnM at h5
    split at h5
    case isFalse => cases h5
    rename_i hl
    let Z : Par := ⟨H, some p, mu⟩
    refine ⟨_, hb cdv A outer s H E Z hr, [], startM N pd ds, ?_⟩
    have muE : ∀ a, Mu Z [] a → mu a := fun a q => by
      rcases q with q | q | q
      · exact q
      · cases q; exact h0
      · cases q
    have kk : Kp mu H (Mu Z []) H := fun a o e n => ⟨e, fun z => n (muE a z)⟩
    have r : Rel K Z [] (start N (.ref p :: rest)) H (startM N pd ds) := by
      refine ⟨fun a o e _ => e, fun a ha => (by cases ha), h1, fun a ha => (by cases ha; exact ⟨_, h2⟩), ?_⟩
      unfold startM L2.start
      have e : N.length - (V.ref p :: rest).length = N.length - 1 - ds.length := by rw [List.length_cons, h4.len]; omega
      rw [e]
      exact .pot rfl h2 (h3.mono kk) (slAll_start _ (h4.mono kk))
    have fin : ∀ {M : List Addr} {σ : L2.St} {H1 : Hp} {s1 : Sl} {pd1 : List PyData}, Rel K Z M σ H1 s1 → s1[0]? = some (.pot pd1) → ∃ xs1, H1 p = some (.lst xs1) ∧ DtAll K mu H1 xs1 pd1 := fun {M σ H1 s1 pd1} r1 e => by
      obtain ⟨a, xs1, _, e2, e3, e4⟩ := r1.sl.getPot e
      cases e2
      exact ⟨xs1, e3, e4.mono fun a o e n => ⟨e, fun z => n (.inl z)⟩⟩
    have bs : ∀ {M : List Addr} {σ : L2.St} {H1 : Hp} {s1 : Sl}, Rel K Z M σ H1 s1 → ∀ a o, H a = some o → a ≠ p → H1 a = some o := fun r1 a o e n => r1.base a o e (fun z => n (by cases z; rfl))
    unfold outM at h5
    split at h5
    · rename_i d1 s1 hq
      simp only [Option.map_eq_some_iff] at h5
      obtain ⟨pd1, hp, h5⟩ := h5
      cases h5
      refine ⟨_, r, hq, fun M σ H1 v k1 r1 t1 => ?_⟩
      obtain ⟨xs1, e1, e2⟩ := fin r1 (potOf_eq hp)
      exact h6 v H1 xs1 (bs r1) e1 e2 (t1.mono fun a o e n => ⟨e, fun z => n (.inl z)⟩)
    · rename_i s1 hq
      simp only [Option.map_eq_some_iff] at h5
      obtain ⟨pd1, hp, h5⟩ := h5
      cases h5
      refine ⟨_, r, hq, fun M σ H1 k1 r1 => ?_⟩
      obtain ⟨xs1, e1, e2⟩ := fin r1 (potOf_eq hp)
      exact h6 _ H1 xs1 (bs r1) e1 e2 .non
    · cases h5
end
end Dl

namespace PySem.SeqAt
open AutoSeq1 (wpAny_loadPart')
open MeetsSeq MeetsSeq2 MeetsSeq3 SeqRoads2
theorem dict_declines_str (l : Addr) (o : Obj) (b : Str) (u : Tok) :
    Meets (Builtin.«dict.__eq__» ⟨[.ref l, .str b u], []⟩) (fun _ R s => (s.heap.get? l = some o ∧ o.cls = .type "dict") ∧ R (.ok (.ret .notImplemented)) s) :=
  .of_wp fun prog w A R s h => by
    obtain ⟨hp, g, d, tk, os⟩ := s
    obtain ⟨⟨hl, hc⟩, h⟩ := h
    obtain ⟨cls, dd, dt, sl⟩ := o
    simp only at hc
    subst hc
    have f1 := F.sub_str_dict
    wp_walk using wpAny_loadPart' hl, wpAny_load hl
    exact ⟨_, rfl, h⟩
theorem str_declines_dict (b : Str) (u : Tok) (l : Addr) (o : Obj) :
    Meets (Builtin.«str.__eq__» ⟨[.str b u, .ref l], []⟩) (fun _ R s => (s.heap.get? l = some o ∧ ∃ es ep, o.data = .dict es ep) ∧ R (.ok (.ret .notImplemented)) s) :=
  .of_wp fun prog w A R s h => by
    obtain ⟨hp, g, d, tk, os⟩ := s
    obtain ⟨⟨hl, es, ep, hd⟩, h⟩ := h
    obtain ⟨cls, dd, dt, sl⟩ := o
    simp only at hd
    subst hd
    wp_walk using wpAny_loadPart' hl, wpAny_load hl
    exact ⟨_, rfl, h⟩
section
variable {A : Around} {s : Shared}
def IsD (h : Heap) (l : Addr) : Prop := ∃ o, h.get? l = some o ∧ o.cls = .type "dict" ∧ ∃ es ep, o.data = .dict es ep
theorem RcAt.dict_str {l : Addr} (b : Str) (u : Tok) (hl : IsD s.heap l) (hu : A.units < cLine) : RcAt A s (.ref l) (.str b u) false := fun prog w E Q h => by
  obtain ⟨o, ho, hc, hd⟩ := hl
  exact rc_eq_decline_or (k := false) ⟨_, ho, hc⟩ (typeIs_str s b u) (by decide) F.sub_str_dict F.slot_dict_eq F.slot_str_eq_refl
    (fun _ hq => call_meets F.slot_dict_eq ⟨_, ho, hc⟩ F.entry_dict_eq (F.args_dict_eq_2 _ _) (dict_declines_str l o b u) ⟨⟨ho, hc⟩, hq⟩)
    (fun _ hq => call_meets F.slot_str_eq_refl (typeIs_str s b u) F.entry_str_eq (F.args_str_eq_2 _ _) (str_declines_dict b u l o) ⟨⟨ho, hd⟩, hq⟩)
    (fun _ hq => wpAny_of_eq (rfl : isSame (.ref l) (.str b u) = pure false) hq) (.inr hu) h
theorem EqAt.dict_str {l : Addr} (b : Str) (u : Tok) (hl : IsD s.heap l) (hu : A.units < cLine) : EqAt A s (.ref l) (.str b u) false := fun prog w E Q h => by
  unfold eqBool
  refine wpAny_holding ?_
  refine wpAny_ite_split (fun hab => absurd (eq_of_beq hab) nofun) (fun _ => ?_)
  exact wpAny_bind (RcAt.dict_str b u hl hu prog w E _ (wpAny_truthy_bool h))
theorem RcAt.str_dict {l : Addr} (b : Str) (u : Tok) (hl : IsD s.heap l) (hu : A.units < cLine) : RcAt A s (.str b u) (.ref l) false := fun prog w E Q h => by
  obtain ⟨o, ho, hc, hd⟩ := hl
  exact rc_eq_decline_or (k := false) (typeIs_str s b u) ⟨_, ho, hc⟩ (by decide) F.sub_dict_str F.slot_str_eq F.slot_dict_eq_refl
    (fun _ hq => call_meets F.slot_str_eq (typeIs_str s b u) F.entry_str_eq (F.args_str_eq_2 _ _) (str_declines_dict b u l o) ⟨⟨ho, hd⟩, hq⟩)
    (fun _ hq => call_meets F.slot_dict_eq_refl ⟨_, ho, hc⟩ F.entry_dict_eq (F.args_dict_eq_2 _ _) (dict_declines_str l o b u) ⟨⟨ho, hc⟩, hq⟩)
    (fun _ hq => wpAny_of_eq (rfl : isSame (.str b u) (.ref l) = pure false) hq) (.inr hu) h
theorem EqAt.str_dict {l : Addr} (b : Str) (u : Tok) (hl : IsD s.heap l) (hu : A.units < cLine) : EqAt A s (.str b u) (.ref l) false := fun prog w E Q h => by
  unfold eqBool
  refine wpAny_holding ?_
  refine wpAny_ite_split (fun hab => absurd (eq_of_beq hab) nofun) (fun _ => ?_)
  exact wpAny_bind (RcAt.str_dict b u hl hu prog w E _ (wpAny_truthy_bool h))
end
end PySem.SeqAt

namespace Dl
open PySem PySem.Spec PyProof.Rows L2

/-! ### operators on trees -/
def gAdd : PyData → PyData → Option PyData
  | .int a, .int b => some (.int (a + b))
  | .str a, .str b => if a.length + b.length ≤ sizeLine then some (.str (a ++ b)) else none
  | .tuple a, .tuple b => if a.length + b.length ≤ sizeLine then some (.tuple (a ++ b)) else none
  | .list a, .list b => if a.length + b.length ≤ sizeLine then some (.list (a ++ b)) else none
  | _, _ => none
def gInt (g : Int → Int → Option Int) : PyData → PyData → Option PyData
  | .int a, .int b => (g a b).map .int
  | _, _ => none
def gSub : PyData → PyData → Option PyData := gInt fun a b => some (a - b)
def gMul : PyData → PyData → Option PyData := gInt fun a b => if (a.natAbs.log2 + b.natAbs.log2 < 1000000) then some (a * b) else none
def gDiv : PyData → PyData → Option PyData := gInt fun a b => if (0 < b ∧ b.natAbs.log2 < 9000) then some (a / b) else none
def gMod : PyData → PyData → Option PyData := gInt fun a b => if 0 < b then some (a % b) else none
def gPow : PyData → PyData → Option PyData := gInt fun a b => if 0 ≤ b ∧ ((a.natAbs.log2 + 1 : Nat) : Int) * b ≤ 2 ^ 27 then some (a ^ b.toNat) else none
def gCmpI (p : Int → Int → Bool) : PyData → PyData → Option PyData
  | .int a, .int b => some (.bool (p a b))
  | _, _ => none
def gLe : PyData → PyData → Option PyData
  | .int a, .int b => some (.bool (decide (a ≤ b)))
  | .str a, .str b => some (.bool (!decide (b.cps.toList < a.cps.toList)))
  | _, _ => none
def gLt : PyData → PyData → Option PyData
  | .int a, .int b => some (.bool (decide (a < b)))
  | .str a, .str b => some (.bool (decide (a.cps.toList < b.cps.toList)))
  | _, _ => none
def gGe : PyData → PyData → Option PyData := gCmpI fun a b => decide (b ≤ a)
def gGt : PyData → PyData → Option PyData := gCmpI fun a b => decide (b < a)

section
variable {X : Cx} {K : PySem.W.Frag}
theorem gInt_some {g : Int → Int → Option Int} {d1 d2 d : PyData} (h : gInt g d1 d2 = some d) : ∃ a b c, d1 = .int a ∧ d2 = .int b ∧ g a b = some c ∧ d = .int c := by
  unfold gInt at h
  split at h
  · simp only [Option.map_eq_some_iff] at h
    obtain ⟨c, h1, h2⟩ := h
    exact ⟨_, _, c, rfl, rfl, h1, h2.symm⟩
  · cases h
theorem okI {C : Int → Int → Prop} {g : Int → Int → Int} {g' : Int → Int → Option Int} (h : ∀ a b c, g' a b = some c → C a b ∧ c = g a b) : OpOk K (rI C fun i j => .int (g i j)) (gInt g') := fun mu H x y d1 d2 d Q hm t1 t2 e k => by
  obtain ⟨a, b, c, rfl, rfl, e1, rfl⟩ := gInt_some e
  obtain ⟨h1, rfl⟩ := h a b c e1
  exact ⟨a, b, t1.inti, t2.inti, h1, k _ H (fun _ _ z => z) (.int _)⟩
theorem okI0 {g : Int → Int → Int} {g' : Int → Int → Option Int} (h : ∀ a b c, g' a b = some c → c = g a b) : OpOk K (rI0 fun i j => .int (g i j)) (gInt g') := fun mu H x y d1 d2 d Q hm t1 t2 e k => by
  obtain ⟨a, b, c, rfl, rfl, e1, rfl⟩ := gInt_some e
  have := h a b c e1
  subst this
  exact ⟨a, b, t1.inti, t2.inti, k _ H (fun _ _ z => z) (.int _)⟩
theorem okB0 {p : Int → Int → Bool} : OpOk K (rI0 fun i j => .bl (p i j)) (gCmpI p) := fun mu H x y d1 d2 d Q hm t1 t2 e k => by
  unfold gCmpI at e
  split at e
  · cases e
    exact ⟨_, _, t1.inti, t2.inti, k _ H (fun _ _ z => z) (.bl _)⟩
  · cases e
theorem ok_sub : OpOk K (rI0 fun i j => .int (i - j)) gSub := okI0 fun a b c h => by cases h; rfl
theorem ok_mul : OpOk K (rI CMulW fun i j => .int (i * j)) gMul := okI fun a b c h => by
  split at h
  · cases h; exact ⟨by assumption, rfl⟩
  · cases h
theorem ok_div : OpOk K (rI CDivW fun i j => .int (i / j)) gDiv := okI fun a b c h => by
  split at h
  · cases h; exact ⟨by assumption, rfl⟩
  · cases h
theorem ok_mod : OpOk K (rI (fun _ j => 0 < j) fun i j => .int (i % j)) gMod := okI fun a b c h => by
  split at h
  · cases h; exact ⟨by assumption, rfl⟩
  · cases h
def CPowW (i j : Int) : Prop := 0 ≤ j ∧ ((i.natAbs.log2 + 1 : Nat) : Int) * j ≤ 2 ^ 27
theorem op_powW : OpR X (binaryOp .Pow) (rI CPowW fun i j => .int (i ^ j.toNat)) := opI fun i j _ _ _ _ _ hc q => pow_int hc.1 (by
  have e : Builtin.Int.intBits i ≤ i.natAbs.log2 + 1 := by
    unfold Builtin.Int.intBits
    split <;> omega
  have h1 : (Builtin.Int.intBits i : Int) ≤ ((i.natAbs.log2 + 1 : Nat) : Int) := Int.ofNat_le.mpr e
  exact Int.le_trans (Int.mul_le_mul_of_nonneg_right h1 hc.1) hc.2) q
theorem ok_pow : OpOk K (rI CPowW fun i j => .int (i ^ j.toNat)) gPow := okI fun a b c h => by
  split at h
  · cases h; exact ⟨by assumption, rfl⟩
  · cases h
theorem ok_ge : OpOk K (rI0 fun i j => .bl (decide (j ≤ i))) gGe := okB0
theorem ok_gt : OpOk K (rI0 fun i j => .bl (decide (j < i))) gGt := okB0
def rLeA : R2 := fun x y H Q => (∃ i j, x = .int i ∧ y = .int j ∧ Q (.bl (decide (i ≤ j))) H) ∨ ∃ i j, x = .str i ∧ y = .str j ∧ Q (.bl (!decide (j.cps.toList < i.cps.toList))) H
theorem op_leA : OpR X (compareOp .LtE) rLeA := OpR.or op_le op_le_str
theorem ok_le : OpOk K rLeA gLe := fun mu H x y d1 d2 d Q hm t1 t2 e k => by
  unfold gLe at e
  split at e
  · cases e; exact .inl ⟨_, _, t1.inti, t2.inti, k _ H (fun _ _ z => z) (.bl _)⟩
  · cases e; exact .inr ⟨_, _, t1.text, t2.text, k _ H (fun _ _ z => z) (.bl _)⟩
  · cases e
def rLtA : R2 := fun x y H Q => (∃ i j, x = .int i ∧ y = .int j ∧ Q (.bl (decide (i < j))) H) ∨ ∃ i j, x = .str i ∧ y = .str j ∧ Q (.bl (decide (i.cps.toList < j.cps.toList))) H
theorem op_ltA : OpR X (compareOp .Lt) rLtA := OpR.or op_lt op_lt_str
theorem ok_lt : OpOk K rLtA gLt := fun mu H x y d1 d2 d Q hm t1 t2 e k => by
  unfold gLt at e
  split at e
  · cases e; exact .inl ⟨_, _, t1.inti, t2.inti, k _ H (fun _ _ z => z) (.bl _)⟩
  · cases e; exact .inr ⟨_, _, t1.text, t2.text, k _ H (fun _ _ z => z) (.bl _)⟩
  · cases e
/-- + -/
def rCatR : R2 := fun x y H Q => ∃ l b xs zs, x = .ref l ∧ y = .ref b ∧ Rd H l (.lst xs) ∧ Rd H b (.lst zs) ∧ xs.length + zs.length ≤ sizeLine ∧ ∀ p, H p = none → Q (.ref p) (upd H p (.lst (xs ++ zs)))
theorem op_catR : OpR X (binaryOp .Add) rCatR := fun pins s σ H x y v u Q I rx ry ⟨l, b, xs, zs, ex, ey, h1, h2, hz, q⟩ => by
  subst ex ey
  cases rx
  cases ry
  obtain ⟨z1, its, n, r, e⟩ := h1.ok I.hok
  obtain ⟨z2, its2, n2, r2, e2⟩ := h2.ok I.hok
  have l1 := r.length
  have l2 := r2.length
  refine PySem.P.add_list e e2 ?_ (by rw [List.size_toArray, List.size_toArray]; omega)
  rw [show its.toArray ++ its2.toArray = (its ++ its2).toArray by simp]
  exact ⟨.ref _, _, I.lnew (t' := s.toks) (r.append r2) (by rw [List.length_append]; omega), rfl, q _ I.fresh⟩
def rAddA (K : PySem.W.Frag) : R2 := fun x y H Q => ((∃ i j, x = .int i ∧ y = .int j ∧ Q (.int (i + j)) H) ∨ ∃ i j, x = .str i ∧ y = .str j ∧ i.length + j.length ≤ sizeLine ∧ Q (.str (i ++ j)) H) ∨ (rCatA K x y H Q ∨ rCatR x y H Q)
theorem op_addA : OpR X (binaryOp .Add) (rAddA X.K) := OpR.or (OpR.or op_add op_add_str) (OpR.or op_catA op_catR)
theorem ok_add : OpOk K (rAddA K) gAdd := fun mu H x y d1 d2 d Q hm t1 t2 e k => by
  unfold gAdd at e
  split at e
  · cases e; exact .inl (.inl ⟨_, _, t1.inti, t2.inti, k _ H (fun _ _ z => z) (.int _)⟩)
  · split at e
    · cases e; exact .inl (.inr ⟨_, _, t1.text, t2.text, by assumption, k _ H (fun _ _ z => z) (.str _)⟩)
    · cases e
  · rename_i ds es
    split at e
    case isFalse => cases e
    rename_i hz
    cases e
    obtain ⟨a, xs, ea, h1, u1⟩ := t1.tuple
    obtain ⟨b, ys, eb, h2, u2⟩ := t2.tuple
    subst ea eb
    refine .inr (.inl ⟨a, b, xs, ys, rfl, rfl, h1, h2, by rw [u1.len, u2.len]; exact hz, fun hx => ?_, fun _ hy => ?_, fun _ _ p hp => ?_⟩)
    · subst hx
      cases u1
      exact k _ H (fun _ _ z => z) t2
    · subst hy
      cases u2
      rw [List.append_nil] at k
      exact k _ H (fun _ _ z => z) t1
    · exact k _ _ (grow_new hp) (dt_newT hm hp (u1.append u2))
  · rename_i ds es
    split at e
    case isFalse => cases e
    rename_i hz
    cases e
    obtain ⟨a, xs, ea, h1, u1⟩ := t1.listR
    obtain ⟨b, ys, eb, h2, u2⟩ := t2.listR
    subst ea eb
    exact .inr (.inr ⟨a, b, xs, ys, rfl, rfl, h1, h2, by rw [u1.len, u2.len]; exact hz, fun p hp => k _ _ (grow_new hp) (dt_newL hm hp (u1.append u2))⟩)
  · cases e

/-! ### an item, by its place -/
def gIx : PyData → PyData → Option PyData
  | .list ds, .int i => atI ds i
  | .tuple ds, .int i => atI ds i
  | .str x, .int i => if x.length ≤ sizeLine then (atI x.cps.toList i).map fun c => .str ⟨#[c]⟩ else none
  | .dict [(.none, .list ds)], .int i => atI ds i
  | _, _ => none
theorem ok_ix : OpOk K (rIx K) gIx := fun mu H x y d1 d2 d Q hm t1 t2 e k => by
  unfold gIx at e
  split at e
  · obtain ⟨a, xs, rfl, h1, u1⟩ := t1.list
    obtain ⟨v, e1, u2⟩ := atI_dt u1 e
    exact .inl ⟨a, xs, _, v, rfl, t2.inti, h1, e1, k _ H (fun _ _ z => z) u2⟩
  · obtain ⟨a, xs, rfl, h1, u1⟩ := t1.tuple
    obtain ⟨v, e1, u2⟩ := atI_dt u1 e
    exact .inr (.inl ⟨a, xs, _, v, rfl, t2.inti, h1, e1, k _ H (fun _ _ z => z) u2⟩)
  · split at e
    case isFalse => cases e
    rename_i hz
    simp only [Option.map_eq_some_iff] at e
    obtain ⟨c, e1, e2⟩ := e
    cases e2
    exact .inr (.inr ⟨_, _, c, t1.text, t2.inti, hz, e1, k _ H (fun _ _ z => z) (.str _)⟩)
  · obtain ⟨a, xs, rfl, h1, u1⟩ := t1.script
    obtain ⟨v, e1, u2⟩ := atI_dt u1 e
    exact .inl ⟨a, xs, _, v, rfl, t2.inti, h1, e1, k _ H (fun _ _ z => z) u2⟩
  · cases e

/-! ### built-ins -/
def gLen : List PyData → Option PyData
  | [.list ds] => some (.int ds.length)
  | [.tuple ds] => some (.int ds.length)
  | [.str x] => if x.length ≤ sizeLine then some (.int x.length) else none
  | [.dict [(.none, .list ds)]] => some (.int ds.length)
  | _ => none
theorem one_of {mu : Addr → Prop} {H : Hp} {xs : List V} {d : PyData} (t : DtAll K mu H xs [d]) : ∃ x, xs = [x] ∧ Dt K mu H x d := by
  cases t with
  | cons h r => cases r; exact ⟨_, rfl, h⟩
theorem two_of {mu : Addr → Prop} {H : Hp} {xs : List V} {d e : PyData} (t : DtAll K mu H xs [d, e]) : ∃ x y, xs = [x, y] ∧ Dt K mu H x d ∧ Dt K mu H y e := by
  cases t with
  | cons h r =>
    obtain ⟨y, rfl, h2⟩ := one_of r
    exact ⟨_, y, rfl, h, h2⟩
theorem ok_len : CallOk K (fun xs H Q => ∃ x n, xs = [x] ∧ LenV K x H n ∧ Q (.int n) H) gLen := fun mu H xs ds d Q hm t e k => by
  unfold gLen at e
  split at e
  · obtain ⟨x, rfl, t1⟩ := one_of t
    cases e
    obtain ⟨a, xs, rfl, h1, u1⟩ := t1.list
    exact ⟨_, _, rfl, .inl ⟨xs, h1, rfl⟩, by rw [u1.len]; exact k _ H (fun _ _ z => z) (.int _)⟩
  · obtain ⟨x, rfl, t1⟩ := one_of t
    cases e
    obtain ⟨a, xs, rfl, h1, u1⟩ := t1.tuple
    exact ⟨_, _, rfl, .inr ⟨xs, h1, rfl⟩, by rw [u1.len]; exact k _ H (fun _ _ z => z) (.int _)⟩
  · obtain ⟨x, rfl, t1⟩ := one_of t
    split at e
    case isFalse => cases e
    cases e
    exact ⟨_, _, rfl, (show LenV K x H _ by rw [t1.text]; exact ⟨by assumption, rfl⟩), k _ H (fun _ _ z => z) (.int _)⟩
  · obtain ⟨x, rfl, t1⟩ := one_of t
    cases e
    obtain ⟨a, xs, rfl, h1, u1⟩ := t1.script
    exact ⟨_, _, rfl, .inl ⟨xs, h1, rfl⟩, by rw [u1.len]; exact k _ H (fun _ _ z => z) (.int _)⟩
  · cases e
def gAbs : List PyData → Option PyData
  | [.int i] => some (.int (if i < 0 then -i else i))
  | _ => none
theorem ok_abs : CallOk K (fun xs H Q => ∃ i, xs = [.int i] ∧ Q (.int (if i < 0 then -i else i)) H) gAbs := fun mu H xs ds d Q hm t e k => by
  unfold gAbs at e
  split at e
  · obtain ⟨x, rfl, t1⟩ := one_of t
    cases e
    exact ⟨_, by rw [t1.inti], k _ H (fun _ _ z => z) (.int _)⟩
  · cases e
def gMax2 : List PyData → Option PyData
  | [.int i, .int j] => some (.int (if j > i then j else i))
  | _ => none
theorem ok_max2 : CallOk K (fun xs H Q => ∃ i j, xs = [.int i, .int j] ∧ Q (.int (if j > i then j else i)) H) gMax2 := fun mu H xs ds d Q hm t e k => by
  unfold gMax2 at e
  split at e
  · obtain ⟨x, y, rfl, t1, u⟩ := two_of t
    cases e
    exact ⟨_, _, by rw [t1.inti, u.inti], k _ H (fun _ _ z => z) (.int _)⟩
  · cases e
def gMin2 : List PyData → Option PyData
  | [.int i, .int j] => some (.int (if j < i then j else i))
  | _ => none
theorem ok_min2 : CallOk K (fun xs H Q => ∃ i j, xs = [.int i, .int j] ∧ Q (.int (if j < i then j else i)) H) gMin2 := fun mu H xs ds d Q hm t e k => by
  unfold gMin2 at e
  split at e
  · obtain ⟨x, y, rfl, t1, u⟩ := two_of t
    cases e
    exact ⟨_, _, by rw [t1.inti, u.inti], k _ H (fun _ _ z => z) (.int _)⟩
  · cases e
/-- int(..) of a number, of a truth -/
def gInt1 : List PyData → Option PyData
  | [.int i] => some (.int i)
  | [.bool b] => some (.int (if b then 1 else 0))
  | _ => none
theorem ok_int1 : CallOk K (fun xs H Q => (∃ i, xs = [.int i] ∧ Q (.int i) H) ∨ ∃ k, xs = [.bl k] ∧ Q (.int (if k then 1 else 0)) H) gInt1 := fun mu H xs ds d Q hm t e k => by
  unfold gInt1 at e
  split at e
  · obtain ⟨x, rfl, t1⟩ := one_of t
    cases e
    exact .inl ⟨_, by rw [t1.inti], k _ H (fun _ _ z => z) (.int _)⟩
  · obtain ⟨x, rfl, t1⟩ := one_of t
    cases e
    exact .inr ⟨_, by rw [t1.bool], k _ H (fun _ _ z => z) (.int _)⟩
  · cases e
/-- all, any of a list of truths -/
def truths : List PyData → Option (List Bool)
  | [] => some []
  | .bool b :: r => (truths r).map (b :: ·)
  | _ :: _ => none
theorem truths_map : ∀ {ds : List PyData} {bs : List Bool}, truths ds = some bs → ds = bs.map .bool
  | [], bs, h => by cases h; rfl
  | d :: r, bs, h => by
    unfold truths at h
    split at h
    · cases h; simp_all
    · rename_i b r' e
      simp only [Option.map_eq_some_iff] at h
      obtain ⟨bs', h1, h2⟩ := h
      injection e with e1 e2
      subst e1 e2 h2
      rw [List.map_cons, ← truths_map h1]
    · cases h
def gAll : List PyData → Option PyData
  | [.list ds] => (truths ds).map fun bs => .bool (bs.all id)
  | _ => none
theorem ok_all : CallOk K (rAll K) gAll := fun mu H xs ds d Q hm t e k => by
  unfold gAll at e
  split at e
  · obtain ⟨x, rfl, t1⟩ := one_of t
    simp only [Option.map_eq_some_iff] at e
    obtain ⟨bs, e1, e2⟩ := e
    cases e2
    obtain ⟨a, xs, rfl, h1, u1⟩ := t1.list
    rw [truths_map e1] at u1
    rw [u1.bools] at h1
    exact ⟨a, bs, rfl, h1, k _ H (fun _ _ z => z) (.bl _)⟩
  · cases e
def gAny : List PyData → Option PyData
  | [.list ds] => (truths ds).map fun bs => .bool (bs.any id)
  | _ => none
theorem ok_any : CallOk K (rAny K) gAny := fun mu H xs ds d Q hm t e k => by
  unfold gAny at e
  split at e
  · obtain ⟨x, rfl, t1⟩ := one_of t
    simp only [Option.map_eq_some_iff] at e
    obtain ⟨bs, e1, e2⟩ := e
    cases e2
    obtain ⟨a, xs, rfl, h1, u1⟩ := t1.list
    rw [truths_map e1] at u1
    rw [u1.bools] at h1
    exact ⟨a, bs, rfl, h1, k _ H (fun _ _ z => z) (.bl _)⟩
  · cases e
def gTuple : List PyData → Option PyData
  | [.list ds] => some (.tuple ds)
  | [.tuple ds] => some (.tuple ds)
  | _ => none
theorem ok_tuple : CallOk K (fun xs H Q => ∃ p ys, xs = [.ref p] ∧ ((SqL K H p ys ∧ ∀ l, H l = none → Q (.ref l) (upd H l (.tup ys))) ∨ (SqT K H p ys ∧ Q (.ref p) H))) gTuple := fun mu H xs ds d Q hm t e k => by
  unfold gTuple at e
  split at e
  · obtain ⟨x, rfl, t1⟩ := one_of t
    cases e
    obtain ⟨a, xs, rfl, h1, u1⟩ := t1.list
    exact ⟨a, xs, rfl, .inl ⟨h1, fun l hl => k _ _ (grow_new hl) (dt_newT hm hl u1)⟩⟩
  · obtain ⟨x, rfl, t1⟩ := one_of t
    cases e
    obtain ⟨a, xs, e1, h1, u1⟩ := t1.tuple
    subst e1
    exact ⟨a, xs, rfl, .inr ⟨h1, k _ H (fun _ _ z => z) t1⟩⟩
  · cases e
def gList : List PyData → Option PyData
  | [.list ds] => some (.list ds)
  | [.tuple ds] => some (.list ds)
  | _ => none
theorem ok_list : CallOk K (fun xs H Q => ∃ p ys, xs = [.ref p] ∧ (SqL K H p ys ∨ SqT K H p ys) ∧ ∀ l, H l = none → Q (.ref l) (upd H l (.lst ys))) gList := fun mu H xs ds d Q hm t e k => by
  unfold gList at e
  split at e
  · obtain ⟨x, rfl, t1⟩ := one_of t
    cases e
    obtain ⟨a, xs, rfl, h1, u1⟩ := t1.list
    exact ⟨a, xs, rfl, .inl h1, fun l hl => k _ _ (grow_new hl) (dt_newL hm hl u1)⟩
  · obtain ⟨x, rfl, t1⟩ := one_of t
    cases e
    obtain ⟨a, xs, rfl, h1, u1⟩ := t1.tuple
    exact ⟨a, xs, rfl, .inr h1, fun l hl => k _ _ (grow_new hl) (dt_newL hm hl u1)⟩
  · cases e
end
end Dl

namespace Dl
open PySem PySem.Spec PyProof.Rows L2

/-! ### == with a text, in among texts -/
/-- what may stand beside a text -/
def Okv (K : PySem.W.Frag) (H : Hp) (x : V) : Prop := flatV x = true ∨ ∃ a, x = .ref a ∧ ((∃ xs, SqL K H a xs) ∨ (∃ xs, SqT K H a xs) ∨ ∃ kvs, H a = some (.dK kvs))
def isTx (z : Str) : V → Bool
  | .str y => y == z
  | _ => false
section
variable {X : Cx} {K : PySem.W.Frag} {pins : List (Addr × Obj)} {σ : L2.St} {H : Hp} {s : Shared}
theorem isD_of (I : Inv X pins σ H s) {a : Addr} {kvs : List (Key × V)} (h : H a = some (.dK kvs)) : SeqAt.IsD s.heap a := by
  obtain ⟨_, _, vs, _, o, es, ep, h1, h2, h3, _⟩ := (show ObjOk X.prog X.w H s.heap a (.dK kvs) from I.hok a _ h)
  exact ⟨o, h1, h2.1, es, ep, h3⟩
theorem eq_text1 (I : Inv X pins σ H s) {A : Around} (hu : A.units < cLine) {x : V} {v : Value} {z : Str} {t : Tok} (rx : RelV x v) (h : Okv X.K H x) : SeqAt.EqAt A s v (.str z t) (isTx z x) := by
  rcases h with h | ⟨a, rfl, h⟩
  · have e := eqAt_V (A := A) (s := s) (y := x) (x := .str z) (u := v) (v := .str z t) rx ⟨t, rfl⟩ h rfl
    have e2 : eqV x (.str z) = isTx z x := by cases x <;> rfl
    rw [e2] at e; exact e
  · cases rx
    rcases h with ⟨xs, h⟩ | ⟨xs, h⟩ | ⟨kvs, h⟩
    · obtain ⟨its, r, p, _⟩ := I.list h
      exact SeqAt.EqAt.list_str z t p.isList hu
    · obtain ⟨its, r, p, _⟩ := I.tuple h
      exact SeqAt.EqAt.tuple_str z t p hu
    · exact SeqAt.EqAt.dict_str z t (isD_of I h) hu
theorem eq_text2 (I : Inv X pins σ H s) {A : Around} (hu : A.units < cLine) {x : V} {v : Value} {z : Str} {t : Tok} (rx : RelV x v) (h : Okv X.K H x) : SeqAt.EqAt A s (.str z t) v (isTx z x) := by
  rcases h with h | ⟨a, rfl, h⟩
  · have e := eqAt_V (A := A) (s := s) (y := .str z) (x := x) (u := .str z t) (v := v) ⟨t, rfl⟩ rx rfl h
    have e2 : eqV (.str z) x = isTx z x := by
      cases x <;> first | rfl | skip
      rename_i y
      show (z == y) = (y == z)
      rw [Bool.eq_iff_iff, beq_iff_eq, beq_iff_eq]
      exact ⟨Eq.symm, Eq.symm⟩
    rw [e2] at e; exact e
  · cases rx
    rcases h with ⟨xs, h⟩ | ⟨xs, h⟩ | ⟨kvs, h⟩
    · obtain ⟨its, r, p, _⟩ := I.list h
      exact SeqAt.EqAt.str_list z t p.isList hu
    · obtain ⟨its, r, p, _⟩ := I.tuple h
      exact SeqAt.EqAt.str_tuple z t p hu
    · exact SeqAt.EqAt.str_dict z t (isD_of I h) hu
end
section
variable {X : Cx} {K : PySem.W.Frag}
def rEqS (K : PySem.W.Frag) : R2 := fun x y H Q => ∃ z, y = .str z ∧ Okv K H x ∧ Q (.bl (isTx z x)) H
theorem op_eqS (hu : X.A.units + 1 < cLine) : OpR X (compareOp .Eq) (rEqS X.K) := fun pins s σ H x y v u Q I rx ry ⟨z, ey, ok, q⟩ => by
  subst ey
  obtain ⟨t, rfl⟩ := ry
  rcases ok with h | ⟨a, rfl, h⟩
  · refine op_eq pins s σ H x (.str z) v (.str z t) Q I rx ⟨t, rfl⟩ ⟨?_, ?_⟩
    · cases x <;> first | rfl | cases h
    · have e : decide (x = .str z) = isTx z x := by
        cases x <;> first | rfl | (cases h; done) | skip
        rw [dec_str]
        rfl
      rw [e]; exact q
  · cases rx
    have fin : EP X pins σ Q (.bool false) s := ⟨.bl false, H, I, rfl, q⟩
    rcases h with ⟨xs, h⟩ | ⟨xs, h⟩ | ⟨kvs, h⟩
    · obtain ⟨its, r, p, _⟩ := I.list h
      exact SeqAt.RcAt.list_str z t p.isList (by omega) X.prog X.w _ _ fin
    · obtain ⟨its, r, p, _⟩ := I.tuple h
      exact SeqAt.RcAt.tuple_str z t p (by omega) X.prog X.w _ _ fin
    · exact SeqAt.RcAt.dict_str z t (isD_of I h) (by omega) X.prog X.w _ _ fin
/-- the answer for an item that is a text -/
def txU (x : V) (u : Value) : Bool := match u with
  | .str z _ => isTx z x
  | _ => false
theorem any_txU {x : V} : ∀ {zs : List Str} {us : List Value}, Vals (zs.map V.str) us → us.any (txU x) = zs.any fun z => isTx z x
  | [], _, .nil => rfl
  | z :: zs, _, .cons r t => by
    obtain ⟨k, rfl⟩ := r
    rw [List.any_cons, List.any_cons, any_txU t]
    rfl
theorem mem_txU {pins : List (Addr × Obj)} {σ : L2.St} {H : Hp} {s : Shared} (I : Inv X pins σ H s) {A : Around} (hu : A.units < cLine) {x : V} {v : Value} (rx : RelV x v) (ok : Okv X.K H x) : ∀ {zs : List Str} {us : List Value}, Vals (zs.map V.str) us → ∀ u ∈ us, SeqAt.EqAt A s u v (txU x u)
  | [], _, .nil => fun u hu => by cases hu
  | z :: zs, _, .cons r t => fun u' hm => by
    rcases List.mem_cons.mp hm with e | hm
    · obtain ⟨k, e2⟩ := r
      rw [e, e2]
      exact eq_text2 I hu rx ok
    · exact mem_txU I hu rx ok t u' hm
def rInTx (K : PySem.W.Frag) (neg : Bool) : R2 := fun x y H Q => ∃ p, ∃ zs : List Str, y = .ref p ∧ (SqL K H p (zs.map V.str) ∨ SqT K H p (zs.map V.str)) ∧ Okv K H x ∧ Q (.bl (if neg then !(zs.any fun z => isTx z x) else zs.any fun z => isTx z x)) H
theorem op_inTx (hu : X.A.units + 1 < cLine) : OpR X (compareOp .In) (rInTx X.K false) := fun pins s σ H x y v u Q I rx ry ⟨p, zs, ey, hq, ok, q⟩ => by
  subst ey
  cases ry
  have hu1 : X.A.in1.units < cLine := hu
  rcases hq with hq | hq
  · obtain ⟨its, r, pl, _⟩ := I.list hq
    refine SeqAt.in_listAt (txU x) pl.isList (fun w hw => mem_txU I hu1 rx ok r w (by simpa using hw)) ⟨.bl _, H, I, rfl, ?_⟩
    rw [show its.toArray.any (txU x) = its.any (txU x) by simp, any_txU r]; exact q
  · obtain ⟨its, r, pl, _⟩ := I.tuple hq
    refine SeqAt.in_tupleAt (txU x) pl (fun w hw => mem_txU I hu1 rx ok r w (by simpa using hw)) ⟨.bl _, H, I, rfl, ?_⟩
    rw [show its.toArray.any (txU x) = its.any (txU x) by simp, any_txU r]; exact q
theorem op_notInTx (hu : X.A.units + 1 < cLine) : OpR X (compareOp .NotIn) (rInTx X.K true) := fun pins s σ H x y v u Q I rx ry ⟨p, zs, ey, hq, ok, q⟩ => by
  subst ey
  cases ry
  have hu1 : X.A.in1.units < cLine := hu
  rcases hq with hq | hq
  · obtain ⟨its, r, pl, _⟩ := I.list hq
    refine SeqAt.notIn_listAt (txU x) pl.isList (fun w hw => mem_txU I hu1 rx ok r w (by simpa using hw)) ⟨.bl _, H, I, rfl, ?_⟩
    rw [show its.toArray.any (txU x) = its.any (txU x) by simp, any_txU r]; exact q
  · obtain ⟨its, r, pl, _⟩ := I.tuple hq
    refine SeqAt.notIn_tupleAt (txU x) pl (fun w hw => mem_txU I hu1 rx ok r w (by simpa using hw)) ⟨.bl _, H, I, rfl, ?_⟩
    rw [show its.toArray.any (txU x) = its.any (txU x) by simp, any_txU r]; exact q
end
/-- neither the script nor what holds it -/
def plainD : PyData → Bool
  | .dict kvs => realD kvs
  | _ => true
section
variable {X : Cx} {K : PySem.W.Frag} {mu : Addr → Prop} {H : Hp}
theorem okv_of {v : V} {d : PyData} (t : Dt K mu H v d) (r : plainD d = true) : Okv K H v := by
  cases t with
  | lst h _ _ => exact .inr ⟨_, rfl, .inl ⟨_, .inl h⟩⟩
  | scr _ _ => cases r
  | tup h _ _ => exact .inr ⟨_, rfl, .inr (.inl ⟨_, .inl (.inl h)⟩)⟩
  | tupK h _ _ => exact .inr ⟨_, rfl, .inr (.inl ⟨_, h H⟩)⟩
  | dct h _ _ => exact .inr ⟨_, rfl, .inr (.inr ⟨_, h⟩)⟩
  | dcT _ _ _ => cases r
  | exc _ _ => cases r
  | _ => exact .inl rfl
theorem isTx_eqv {v : V} {d : PyData} {z : Str} (t : Dt K mu H v d) : isTx z v = PyData.eqv d (.str z) := by
  cases t <;> simp [isTx, PyData.eqv]
def strsD : List PyData → Option (List Str)
  | [] => some []
  | .str x :: r => (strsD r).map (x :: ·)
  | _ :: _ => none
theorem strsD_map : ∀ {ds : List PyData} {zs : List Str}, strsD ds = some zs → ds = zs.map .str
  | [], zs, h => by cases h; rfl
  | d :: r, zs, h => by
    unfold strsD at h
    split at h
    · rename_i e; cases e
    · rename_i x r' e
      simp only [Option.map_eq_some_iff] at h
      obtain ⟨ws, h1, h2⟩ := h
      injection e with e1 e2
      subst e1 e2 h2
      rw [List.map_cons, ← strsD_map h1]
    · cases h
/-- in, not in -/
def inD (neg : Bool) (d : PyData) (ds : List PyData) : Option PyData :=
  if scalD d = true ∧ ds.all scalD = true then some (.bool (if neg then !ds.any (fun z => PyData.eqv z d) else ds.any fun z => PyData.eqv z d))
  else if plainD d = true then (strsD ds).map fun zs => .bool (if neg then !(zs.any fun z => PyData.eqv d (.str z)) else zs.any fun z => PyData.eqv d (.str z)) else none
def gIn (neg : Bool) : PyData → PyData → Option PyData
  | d, .list ds => inD neg d ds
  | d, .tuple ds => inD neg d ds
  | .str x, .str z => if x.cps.size = 1 then some (.bool (if neg then !decide (x.cps.getD 0 0 ∈ z.cps.toList) else decide (x.cps.getD 0 0 ∈ z.cps.toList))) else none
  | _, _ => none
def rInA (K : PySem.W.Frag) (neg : Bool) : R2 := fun x y H Q => (rIn K neg x y H Q ∨ rInTx K neg x y H Q) ∨ ∃ (c : Nat) (z : Str), x = .str ⟨#[c]⟩ ∧ y = .str z ∧ Q (.bl (if neg then !decide (c ∈ z.cps.toList) else decide (c ∈ z.cps.toList))) H
theorem op_inA (hu : X.A.units + 1 < cLine) : OpR X (compareOp .In) (rInA X.K false) := OpR.or (OpR.or op_in_seq (op_inTx hu)) op_in_sign
theorem op_notInA (hu : X.A.units + 1 < cLine) : OpR X (compareOp .NotIn) (rInA X.K true) := OpR.or (OpR.or op_notIn_seq (op_notInTx hu)) op_notIn_sign
theorem inD_ok {neg : Bool} {x : V} {d1 d : PyData} {ds : List PyData} {p : Addr} {xs : List V} {Q : VK} (t1 : Dt K mu H x d1) (h1 : SqL K H p xs ∨ SqT K H p xs) (u : DtAll K mu H xs ds) (e : inD neg d1 ds = some d)
    (k : ∀ v H', (∀ a o, H a = some o → H' a = some o) → Dt K mu H' v d → Q v H') : rInA K neg x (.ref p) H Q := by
  unfold inD at e
  split at e
  · rename_i hc
    cases e
    refine .inl (.inl ⟨p, xs, rfl, h1, scal_v t1 hc.1, scal_vs u hc.2, ?_⟩)
    rw [scal_any t1 hc.1 u hc.2]
    exact k _ H (fun _ _ z => z) (.bl _)
  · split at e
    case isFalse => cases e
    rename_i hp
    simp only [Option.map_eq_some_iff] at e
    obtain ⟨zs, e1, e2⟩ := e
    subst e2
    rw [strsD_map e1] at u
    rw [u.texts] at h1
    refine .inl (.inr ⟨p, zs, rfl, h1, okv_of t1 hp, ?_⟩)
    have q : (zs.any fun z => isTx z x) = zs.any fun z => PyData.eqv d1 (.str z) := by
      congr 1
      funext z
      exact isTx_eqv t1
    rw [q]
    exact k _ H (fun _ _ z => z) (.bl _)
theorem ok_in {neg : Bool} : OpOk K (rInA K neg) (gIn neg) := fun mu H x y d1 d2 d Q hm t1 t2 e k => by
  unfold gIn at e
  split at e
  · obtain ⟨p, xs, rfl, h1, u⟩ := t2.list
    exact inD_ok t1 (.inl h1) u e k
  · obtain ⟨p, xs, rfl, h1, u⟩ := t2.tuple
    exact inD_ok t1 (.inr h1) u e k
  · rename_i x1 z1
    split at e
    case isFalse => cases e
    rename_i hc
    cases e
    have ex : x1 = ⟨#[x1.cps.getD 0 0]⟩ := by
      obtain ⟨⟨l⟩⟩ := x1
      cases l with
      | nil => simp at hc
      | cons c r =>
        cases r with
        | nil => rfl
        | cons _ _ => simp at hc
    exact .inr ⟨x1.cps.getD 0 0, z1, by rw [t1.text, ← ex], t2.text, k _ H (fun _ _ z => z) (.bl _)⟩
  · cases e

/-! ### ==, != of data -/
mutual
/-- no dict in it -/
def noDct : PyData → Bool
  | .dict _ => false
  | .list xs => noDcts xs
  | .tuple xs => noDcts xs
  | _ => true
def noDcts : List PyData → Bool
  | [] => true
  | x :: xs => noDct x && noDcts xs
end
mutual
theorem Dt.dp : ∀ {v : V} {d : PyData}, Dt K mu H v d → noDct d = true → Dp K H v d
  | _, _, .non, _ => .non
  | _, _, .bl b, _ => .bl b
  | _, _, .int i, _ => .int i
  | _, _, .str x, _ => .str x
  | _, _, .lst h n t, e => .lst (.inl h) (DtAll.dp t (by simpa [noDct] using e))
  | _, _, .tup h n t, e => .tup (.inl (.inl h)) (DtAll.dp t (by simpa [noDct] using e))
  | _, _, .tupK h _ t, e => .tup (h H) (DtAll.dp t (by simpa [noDct] using e))
  | _, _, .scr h t, e => by simp [noDct] at e
  | _, _, .dct h n t, e => by simp [noDct] at e
theorem DtAll.dp : ∀ {vs : List V} {ds : List PyData}, DtAll K mu H vs ds → noDcts ds = true → DpAll K H vs ds
  | _, _, .nil, _ => .nil
  | _, _, .cons h t, e => by
    simp only [noDcts, Bool.and_eq_true] at e
    exact .cons (Dt.dp h e.1) (DtAll.dp t e.2)
end
def isStrD : PyData → Bool
  | .str _ => true
  | _ => false
def isTupD : PyData → Option (List PyData)
  | .tuple ds => some ds
  | _ => none
/-- may both be compared by this layer: one is a text, or neither holds a dict -/
def gEq (d e : PyData) : Option PyData :=
  if isStrD e = true ∧ plainD d = true then some (.bool (PyData.eqv d e))
  else if (noDct d = true ∧ noDct e = true) ∧ SeqAt.shaped d = true ∧ SeqAt.shaped e = true then some (.bool (PyData.eqv d e))
  else match d, e with
    | .tuple ds, .tuple [] => some (.bool ds.isEmpty)
    | _, _ => none
def rEqT0 (K : PySem.W.Frag) : R2 := fun x y H Q => ∃ a b xs, x = .ref a ∧ y = .ref b ∧ SqT K H a xs ∧ SqT K H b [] ∧ Q (.bl xs.isEmpty) H
theorem op_eqT0 (hu : X.A.units + 1 < cLine) : OpR X (compareOp .Eq) (rEqT0 X.K) := fun pins s σ H x y v u Q I rx ry ⟨a, b, xs, ex, ey, h1, h2, q⟩ => by
  subst ex ey
  cases rx
  cases ry
  obtain ⟨its, r, p, _⟩ := I.tuple h1
  obtain ⟨its2, r2, p2, _⟩ := I.tuple h2
  cases r2
  refine PySem.W.eq_tuplesT (n := 0) (e := fun _ => true) p p2 (fun j h1 h2 => absurd h2 (by simp)) hu ⟨.bl xs.isEmpty, H, I, ?_, q⟩
  have hl := r.length
  cases xs with
  | nil =>
    cases r
    rfl
  | cons x xs =>
    cases r
    simp
    rfl
def rEqA (K : PySem.W.Frag) : R2 := fun x y H Q => (rEqS K x y H Q ∨ rEqD K x y H Q) ∨ rEqT0 K x y H Q
theorem op_eqA (hu : X.A.units + 64 < cLine) : OpR X (compareOp .Eq) (rEqA X.K) := OpR.or (OpR.or (op_eqS (by omega)) (op_eqD hu)) (op_eqT0 (by omega))
theorem ok_eq : OpOk K (rEqA K) gEq := fun mu H x y d1 d2 d Q hm t1 t2 e k => by
  unfold gEq at e
  split at e
  · rename_i hc
    cases e
    cases d2 with
    | str z =>
      refine .inl (.inl ⟨z, t2.text, okv_of t1 hc.2, ?_⟩)
      rw [isTx_eqv t1]
      exact k _ H (fun _ _ z => z) (.bl _)
    | _ => exact absurd hc.1 (by simp [isStrD])
  · split at e
    · rename_i hc
      cases e
      exact .inl (.inr ⟨d1, d2, t1.dp hc.1.1, t2.dp hc.1.2, hc.2.1, hc.2.2, k _ H (fun _ _ z => z) (.bl _)⟩)
    · split at e
      · rename_i ds0 _ _
        cases e
        obtain ⟨a, xs, rfl, h1, u1⟩ := t1.tuple
        obtain ⟨b, ys, rfl, h2, u2⟩ := t2.tuple
        cases u2
        have el : xs.isEmpty = ds0.isEmpty := by cases u1 <;> rfl
        refine .inr ⟨a, b, xs, rfl, rfl, h1, h2, ?_⟩
        rw [el]
        exact k _ H (fun _ _ z => z) (.bl _)
      · cases e
def gNe (d e : PyData) : Option PyData := if isStrD d = true ∧ isStrD e = true then some (.bool (!PyData.eqv d e))
  else if (noDct d = true ∧ noDct e = true) ∧ SeqAt.shaped d = true ∧ SeqAt.shaped e = true then some (.bool (!PyData.eqv d e)) else none
def rNeA (K : PySem.W.Frag) : R2 := fun x y H Q => rNe x y H Q ∨ rNeD K x y H Q
theorem op_neA (hu : X.A.units + 64 < cLine) : OpR X (compareOp .NotEq) (rNeA X.K) := OpR.or op_ne (op_neD hu)
theorem ok_ne : OpOk K (rNeA K) gNe := fun mu H x y d1 d2 d Q hm t1 t2 e k => by
  unfold gNe at e
  split at e
  · rename_i hc
    cases e
    cases d1 with
    | str a =>
      cases d2 with
      | str b =>
        have e1 := t1.text
        have e2 := t2.text
        subst e1 e2
        have q : (!decide (V.str a = V.str b)) = !PyData.eqv (.str a) (.str b) := by
          have e3 : PyData.eqv (.str a) (.str b) = (a == b) := rfl
          rw [e3]
          by_cases q : a = b
          · subst q; simp
          · have q2 : (a == b) = false := beq_eq_false_iff_ne.mpr q
            rw [q2]
            simp [q]
        exact .inl ⟨rfl, by rw [q]; exact k _ H (fun _ _ z => z) (.bl _)⟩
      | _ => cases hc.2
    | _ => cases hc.1
  · split at e
    · rename_i hc
      cases e
      exact .inr ⟨d1, d2, t1.dp hc.1.1, t2.dp hc.1.2, hc.2.1, hc.2.2, k _ H (fun _ _ z => z) (.bl _)⟩
    · cases e
/-- is, is not of truths, of None -/
def gIs (neg : Bool) : PyData → PyData → Option PyData
  | .bool a, .bool b => some (.bool (if neg then !decide (a = b) else decide (a = b)))
  | _, _ => none
theorem ok_isnot_bl : OpOk K (fun x y H Q => ∃ a b, x = .bl a ∧ y = .bl b ∧ Q (.bl (!decide (a = b))) H) (gIs true) := fun mu H x y d1 d2 d Q hm t1 t2 e k => by
  unfold gIs at e
  split at e
  · cases e
    exact ⟨_, _, t1.bool, t2.bool, k _ H (fun _ _ z => z) (.bl _)⟩
  · cases e
theorem ok_is_bl : OpOk K (fun x y H Q => ∃ a b, x = .bl a ∧ y = .bl b ∧ Q (.bl (decide (a = b))) H) (gIs false) := fun mu H x y d1 d2 d Q hm t1 t2 e k => by
  unfold gIs at e
  split at e
  · cases e
    exact ⟨_, _, t1.bool, t2.bool, k _ H (fun _ _ z => z) (.bl _)⟩
  · cases e
end
end Dl

namespace Dl
open PySem PySem.Spec PyProof.Rows L2

/-! ### isinstance -/
/-- the class of a tree -/
def tyD : PyData → Option String
  | .none => some "NoneType"
  | .bool _ => some "bool"
  | .int _ => some "int"
  | .str _ => some "str"
  | .list _ => some "list"
  | .tuple _ => some "tuple"
  | .dict kvs => if realD kvs = true then some "dict" else none
def isiB (a T : String) : Bool := a == T || (a == "bool" && T == "int")
/-- what the library's table says of such a class -/
def IsiT (T : String) : Prop := ∀ a ∈ ["NoneType", "bool", "int", "str", "list", "tuple", "dict"], kitB a T = some (isiB a T)
theorem isi_str : IsiT "str" := by unfold IsiT; decide +kernel
theorem isi_tuple : IsiT "tuple" := by unfold IsiT; decide +kernel
theorem isi_int : IsiT "int" := by unfold IsiT; decide +kernel
theorem isi_bool : IsiT "bool" := by unfold IsiT; decide +kernel
theorem isi_list : IsiT "list" := by unfold IsiT; decide +kernel
theorem isi_dict : IsiT "dict" := by unfold IsiT; decide +kernel
def gIsi (T : String) (d : PyData) : Option PyData := (tyD d).map fun a => .bool (isiB a T)
section
variable {X : Cx} {K : PySem.W.Frag} {mu : Addr → Prop} {H : Hp} {Z : Par} {a b e : Expr} {es : List Expr} {pos : Pos} {fa fb fc : DE} {ga : DA}
theorem tyD_mem {d : PyData} {n : String} (h : tyD d = some n) : n ∈ ["NoneType", "bool", "int", "str", "list", "tuple", "dict"] := by
  unfold tyD at h
  split at h <;> first | (cases h; decide) | (split at h <;> first | (cases h; decide) | cases h)
theorem tyX_of {v : V} {d : PyData} {n : String} (t : Dt K mu H v d) (h : tyD d = some n) : TyX K H v (.type n) := by
  cases t with
  | non => cases h; exact .base .non
  | bl b => cases h; exact .base (.bl b)
  | int i => cases h; exact .base (.int i)
  | str x => cases h; exact .base (.str x)
  | lst r _ _ =>
    cases h
    rcases r with r | ⟨o, r⟩
    · exact .base (.lst r)
    · exact .base (.frz r)
  | tup r _ _ =>
    cases h
    exact .base (.tup r)
  | tupK r _ _ =>
    cases h
    rcases r (fun _ => none) with (r | ⟨o, r⟩) | ⟨o, its, m, h1, h2, _⟩
    · cases r
    · cases r
    · exact .kTuple h1 h2
  | scr _ _ =>
    simp [tyD, realD] at h
  | dcT _ _ _ =>
    simp [tyD, realD] at h
  | exc _ _ =>
    simp [tyD, realD] at h
  | dct r _ _ =>
    simp only [tyD] at h
    split at h
    · cases h; exact .base (.dK r)
    · cases h
/-- isinstance(e, T) -/
theorem disi {T : String} {x c : Str} {p p2 : Pos} (hT : IsiT T) (hg : Gl X x) (hm : X.mg x = none) (hv : bootBuiltins x = some (.builtin "isinstance")) (hg2 : Gl X c) (hm2 : X.mg c = none) (hv2 : bootBuiltins c = some (.type T)) (ha : PE X e (lft X.K Z fa))
    (hn : x ≠ "__name__" := by decide) (hdb : (x == ("__debug__" : Str)) = false := by decide) (hn2 : c ≠ "__name__" := by decide) (hdb2 : (c == ("__debug__" : Str)) = false := by decide)
    (he : starEach [e, .Name c p2] X.env = (false, eval e X.env) :: starEach [.Name c p2] X.env := by rfl) (he2 : starEach [.Name c p2] X.env = (false, eval (.Name c p2) X.env) :: starEach [] X.env := by rfl) (hpl : (backTo pos (starEach [.Name c p2] X.env)).any (·.1) = false := by rfl) :
    PE X (.Call (.Name x p) [e, .Name c p2] [] pos) (lft X.K Z (dUn (gIsi T) fa)) := PEimp (pe_callB call_isi hg hm hv (pa_cons ha (pa_cons (pe_bltn (v := .ty T) hg2 hm2 hv2 rfl hn2 hdb2) pa_nil he2) he) hn hdb he hpl) fun σ H Q h => by
  obtain ⟨M, s, d, s', rl, hf, k⟩ := h
  obtain ⟨d1, h1, h3⟩ := dUn_some hf
  unfold gIsi at h3
  simp only [Option.map_eq_some_iff] at h3
  obtain ⟨n, h4, h5⟩ := h3
  subst h5
  refine ⟨M, s, d1, s', rl, h1, fun v H1 k1 r1 t1 => ?_⟩
  exact ⟨v, .ty T, .type n, .type T, _, rfl, .ty T, tyX_of t1 h4, kit_ty (hT n (tyD_mem h4)), k _ H1 k1 r1 (.bl _)⟩

/-! ### slices -/
abbrev DO := Sl → Option (Option Int × Sl)
def oN : DO := fun s => some (none, s)
def oS (f : DE) : DO := fun s => (f s).bind fun p => match p.1 with
  | .int i => some (some i, p.2)
  | _ => none
def lfO (K : PySem.W.Frag) (Z : Par) (f : DO) : TO := fun σ H Q => ∃ M s d s', Rel K Z M σ H s ∧ f s = some (d, s') ∧ ∀ H', Kq Z M H M H' → Rel K Z M σ H' s' → Q d H'
theorem POimp {X : Cx} {e : Option Expr} {t t' : TO} (h : PO X e t) (i : ∀ σ H Q, t' σ H Q → t σ H Q) : PO X e t' := ⟨fun pins s σ H Q I q => h.run pins s σ H Q I (i σ H Q q)⟩
theorem don : PO X none (lfO X.K Z oN) := POimp po_none fun σ H Q h => by
  obtain ⟨M, s, d, s', rl, hf, k⟩ := h
  cases hf
  exact k H (Kq.refl _ _ _) rl
theorem dos (h : PE X e (lft X.K Z fa)) : PO X (some e) (lfO X.K Z (oS fa)) := POimp (po_some h) fun σ H Q h => by
  obtain ⟨M, s, d, s', rl, hf, k⟩ := h
  unfold oS at hf
  simp only [Option.bind_eq_some_iff] at hf
  obtain ⟨⟨d1, s1⟩, h1, h2⟩ := hf
  dsimp only at h2
  split at h2
  · cases h2
    exact ⟨M, s, _, _, rl, h1, fun v H1 k1 r1 t1 => ⟨_, t1.inti, k H1 k1 r1⟩⟩
  · cases h2
def cutD (xs : List PyData) (lo hi : Option Int) : List PyData := (xs.drop (HT.sIx xs.length 0 lo)).take (HT.sIx xs.length xs.length hi - HT.sIx xs.length 0 lo)
theorem cut_dt {xs : List V} {ds : List PyData} (t : DtAll K mu H xs ds) (lo hi : Option Int) : DtAll K mu H (cutV xs lo hi) (cutD ds lo hi) := by
  unfold cutV cutD
  rw [t.len]
  exact (t.drop _).take _
def gSl (d : PyData) (lo hi : Option Int) : Option PyData := match d with
  | .list ds => some (.list (cutD ds lo hi))
  | .tuple ds => some (.tuple (cutD ds lo hi))
  | .str x => if x.length ≤ sizeLine then some (.str (cutS x lo hi)) else none
  | _ => none
def dSl (f : DE) (lo hi : DO) : DE := fun s => (f s).bind fun p => (lo p.2).bind fun q => (hi q.2).bind fun r => (gSl p.1 q.1 r.1).map fun d => (d, r.2)
def rSlZ (K : PySem.W.Frag) : V → Option Int → Option Int → Hp → VK → Prop := fun x lo hi H Q => (rSlA K x lo hi H Q ∨ rSlL K x lo hi H Q) ∨ rSlS x lo hi H Q
theorem sl_Z : SlR X (rSlZ X.K) := SlR.or (SlR.or sl_tupA sl_list) sl_str
theorem whole_cut (ds : List PyData) {lo hi : Option Int} (h : HT.sIx ds.length 0 lo = 0 ∧ HT.sIx ds.length ds.length hi = ds.length) : cutD ds lo hi = ds := by
  unfold cutD
  rw [h.1, h.2]
  simp
theorem dsl {lo hi : Option Expr} {flo fhi : DO} {p2 : Pos} (he : PE X e (lft X.K Z fa)) (hl : PO X lo (lfO X.K Z flo)) (hu : PO X hi (lfO X.K Z fhi)) : PE X (.Subscript e (.Slice lo hi none p2) pos) (lft X.K Z (dSl fa flo fhi)) := PEimp (pe_slice sl_Z he hl hu) fun σ H Q h => by
  obtain ⟨M, s, d, s', rl, hf, k⟩ := h
  unfold dSl at hf
  simp only [Option.bind_eq_some_iff, Option.map_eq_some_iff] at hf
  obtain ⟨⟨d1, s1⟩, h1, ⟨o1, s2⟩, h2, ⟨o2, s3⟩, h3, d2, h4, h5⟩ := hf
  cases h5
  refine ⟨M, s, d1, s1, rl, h1, fun v H1 k1 r1 t1 => ⟨M, s1, o1, s2, r1, h2, fun H2 k2 r2 => ⟨M, s2, o2, _, r2, h3, fun H3 k3 r3 => ?_⟩⟩⟩
  have t3 := t1.mono (k2.trans k3).kp
  have kk := k1.trans (k2.trans k3)
  unfold gSl at h4
  dsimp only at h4
  split at h4
  · cases h4
    obtain ⟨a, xs, rfl, g1, u1⟩ := t3.list
    exact .inl (.inr ⟨a, xs, rfl, g1, fun p hp => k _ _ (kk.trans (kq_grow (grow_new hp))) (r3.grow (grow_new hp)) (dt_newL r3.muT hp (cut_dt u1 _ _))⟩)
  · cases h4
    obtain ⟨a, xs, ea, g1, u1⟩ := t3.tuple
    subst ea
    refine .inl (.inl ⟨a, xs, rfl, g1, fun hw => ?_, fun _ p hp => k _ _ (kk.trans (kq_grow (grow_new hp))) (r3.grow (grow_new hp)) (dt_newT r3.muT hp (cut_dt u1 _ _))⟩)
    rw [u1.len] at hw
    rw [whole_cut _ hw] at k
    exact k _ _ kk r3 t3
  · split at h4
    case isFalse => cases h4
    cases h4
    exact .inr ⟨_, t3.text, by assumption, k _ _ kk r3 (.str _)⟩
  · cases h4
end

/-! ### a tuple turned about -/
section
variable {prog : Program} {w : World} {A : Around} {E : Value → Shared → Prop} {s : Shared}
theorem applied_rev {sl : Addr} {vl vu vs : Value} {n : Nat} {Q : Int × Int × Nat → Shared → Prop} (hs : s.heap.IsSliceOf sl vl vu vs) (pl : IsPart vl none) (pu : IsPart vu none) (ps : IsPart vs (some (-1)))
    (h : Q ((n : Int) - 1, -1, n) s) : wpAny (model prog w) A (Builtin.Slice.sliceApplied (.ref sl) (pure (n : Int))) Q E s := by
  obtain ⟨os, hos, hcs, hds⟩ := id hs
  unfold Builtin.Slice.sliceApplied Builtin.Slice.sliceFields
  refine wpAny_bind (wpAny_bind (wpAny_field hos hds (x := vl) rfl (wpAny_bind (wpAny_field hos hds (x := vu) rfl (wpAny_bind (wpAny_field hos hds (x := vs) rfl (wpAny_pure ?_)))))))
  refine wpAny_bind (HT.slicePart_ ps ?_)
  show wpAny _ _ (if ((-1 : Int) == 0) = true then _ else _) _ _ s
  rw [if_neg (by decide)]
  refine wpAny_bind (HT.slicePart_ pl (wpAny_bind (HT.slicePart_ pu (wpAny_bind (wpAny_pure ?_)))))
  have e1 : Builtin.Slice.sliceAdjust none none (-1) (n : Int) = ((n : Int) - 1, -1) := rfl
  have e2 : Builtin.Slice.slicePlaces ((n : Int) - 1) (-1) (-1) = n := by
    unfold Builtin.Slice.slicePlaces
    rw [if_neg (by decide)]
    split
    · simp only [Int.neg_neg, Int.ediv_one]; omega
    · simp only [Int.toNat_zero]; omega
  show wpAny _ _ (match Builtin.Slice.sliceAdjust none none (-1) (n : Int) with | (lo, hi) => pure (lo, (-1 : Int), Builtin.Slice.slicePlaces lo hi (-1))) _ _ s
  rw [e1]
  show wpAny _ _ (pure ((n : Int) - 1, (-1 : Int), Builtin.Slice.slicePlaces ((n : Int) - 1) (-1) (-1))) _ _ s
  rw [e2]
  exact wpAny_pure h
theorem filterMap_some {α β : Type} {f : α → Option β} {g : α → β} : ∀ l : List α, (∀ m ∈ l, f m = some (g m)) → l.filterMap f = l.map g
  | [], _ => rfl
  | a :: l, h => by
    rw [List.filterMap_cons, h a List.mem_cons_self, List.map_cons, filterMap_some l fun m hm => h m (List.mem_cons_of_mem _ hm)]
theorem pick_rev (xs : Array Value) : ((List.range xs.size).filterMap fun (m : Nat) => xs[(((xs.size : Int) - 1) + (m : Int) * (-1)).toNat]?).toArray = xs.toList.reverse.toArray := by
  congr 1
  rw [filterMap_some (g := fun m => (xs.toList.reverse[m]?).getD .none) _ fun m hm => ?_]
  · apply List.ext_getElem?
    intro i
    by_cases hi : i < xs.size
    · have hl : i < xs.toList.reverse.length := by simpa using hi
      rw [List.getElem?_map, List.getElem?_range hi, List.getElem?_eq_getElem hl]
      simp only [Option.map_some, List.getElem?_eq_getElem hl, Option.getD_some]
    · rw [List.getElem?_eq_none (by simpa using hi), List.getElem?_eq_none (by simpa using hi)]
  · have hm := List.mem_range.mp hm
    have e : (((xs.size : Int) - 1) + (m : Int) * (-1)).toNat = xs.size - 1 - m := by omega
    have hl : m < xs.toList.reverse.length := by simpa using hm
    rw [e, ← Array.getElem?_toList, List.getElem?_eq_getElem hl, List.getElem_reverse, List.getElem?_eq_getElem (by simp; omega)]
    simp
theorem getItem_tuple_rev {t sl : Addr} {items : Array Value} {vl vu vs : Value} {Q : Value → Shared → Prop} (ht : IsTup s.heap t items) (hs : s.heap.IsSliceOf sl vl vu vs) (pl : IsPart vl none) (pu : IsPart vu none) (ps : IsPart vs (some (-1)))
    (h : Q (.ref s.heap.objs.size) { s with heap := s.heap.push { cls := .type "tuple", data := .seq items.toList.reverse.toArray } }) (hsz : items.size ≤ sizeLine) : wpAny (model prog w) A (getItem (.ref t) (.ref sl)) Q E s := by
  have hok : sizeOk (.seq items.toList.reverse.toArray) := by
    show items.toList.reverse.toArray.size ≤ sizeLine
    rw [List.size_toArray, List.length_reverse, Array.length_toList]
    exact hsz
  obtain ⟨os, hos, hcs, hds⟩ := id hs
  have hTy : s.TypeIs (.ref sl) "slice" := ⟨os, hos, hcs⟩
  unfold getItem
  try with_reducible refine wpAny_holding ?_
  first | refine wpAny_bind (wpAny_pure ?_) | skip
  refine wpAny_bind (wpAny_sequenceKey ht.typeIs (by decide) ?_)
  refine wpAny_bind (wpAny_callSpecial?_slot (name := Str.ofString "__getitem__") ht.typeIs PyProof.Rows.slot_tuple_getitem (wpAny_call_entry PyProof.Rows.slot_tuple_getitem ht.typeIs entry_tuple_getitem ?_ (args_tuple_getitem _ _)))
  show wpAny _ _ (Builtin.Tuple.tupleItemsOf (.ref t) >>= _) _ _ s
  refine wpAny_bind (tupleItemsOf_ ht ?_)
  refine wpAny_bind (wpAny_typeOf hTy ?_)
  rw [if_pos (by decide)]
  refine wpAny_bind (applied_rev hs pl pu ps ?_)
  have hno : ¬ ((((items.size : Int) - 1) == 0 && (-1 : Int) == 1 && items.size == items.size) = true) := by simp
  show wpAny _ _ (if (((items.size : Int) - 1) == 0 && (-1 : Int) == 1 && items.size == items.size) = true then _ else _) _ _ s
  rw [if_neg hno, pick_rev]
  first
    | exact wpAny_bind (m := Builtin.Tuple.tupleExact _) (wpAny_newObj_type (wpAny_pure ⟨_, rfl, wpAny_pure h⟩) hok)
    | exact wpAny_bind (m := Builtin.Tuple.tupleExact _) (wpAny_newObj_type (wpAny_bind (wpAny_pure (wpAny_pure ⟨_, rfl, wpAny_pure h⟩))) hok)
    | exact wpAny_bind (wpAny_bind (m := Builtin.Tuple.tupleExact _) (wpAny_newObj_type (wpAny_pure (wpAny_pure ⟨_, rfl, wpAny_pure h⟩)) hok))
    | exact wpAny_bind (wpAny_bind (m := Builtin.Tuple.tupleExact _) (wpAny_newObj_type (wpAny_pure ⟨_, rfl, wpAny_pure h⟩) hok))
end
def gRev : PyData → Option PyData
  | .tuple ds => some (.tuple ds.reverse)
  | _ => none
section
variable {X : Cx} {K : PySem.W.Frag} {mu : Addr → Prop} {H : Hp} {Z : Par} {a b e : Expr} {es : List Expr} {pos : Pos} {fa fb fc : DE} {ga : DA}
def tRevT (K : PySem.W.Frag) (te : TE) : TE := fun σ H Q => te σ H fun x H1 => ∃ a xs, x = .ref a ∧ SqT K H1 a xs ∧ ∀ p, H1 p = none → Q (.ref p) (upd H1 p (.tup xs.reverse))
theorem pe_revT {te : TE} {k : Nat} {p1 p2 p3 : Pos} (he : PE X e te) : PE X (.Subscript e (.Slice none none (some (.UnaryOp .USub (.Constant (.int 1) k p1) p2)) p3) pos) (tRevT X.K te) := by
  refine ⟨fun pins s σ H Q I h => ?_⟩
  refine Subscript_ (thn (he.run pins s σ H _ I h) fun v s1 ⟨x, H1, I1, r1, a, xs, ex, hx, q⟩ => ?_)
  subst ex
  cases r1
  have part3 : PO X (some (.UnaryOp .USub (.Constant (.int 1) k p1) p2)) (tPart (tUn (rU fun i => .int (-i)) (tC (.int 1)))) := po_some (pe_un un_neg pe_int)
  refine wpAny_Slice (thn (po_none.run pins s1 σ H1 (fun o H2 => o = none ∧ H2 = H1) I1 ⟨rfl, rfl⟩) fun vl s2 ⟨l, H2, I2, pl, el, e2⟩ => ?_)
  subst el e2
  refine thn (po_none.run pins s2 σ H2 (fun o H3 => o = none ∧ H3 = H2) I2 ⟨rfl, rfl⟩) fun vu s3 ⟨u, H3, I3, pu, eu, e3⟩ => ?_
  subst eu e3
  refine thn (part3.run pins s3 σ H3 (fun o H4 => o = some (-1) ∧ H4 = H3) I3 ⟨1, rfl, -1, rfl, rfl, rfl⟩) fun vs s4 ⟨o, H4, I4, ps, eo, e4⟩ => ?_
  subst eo e4
  have I5 : Inv X pins σ H4 { s4 with heap := s4.heap.push { cls := .type "slice", data := .fields #[vl, vu, vs] } } := I4.kept (t' := s4.toks) fun b ob q => Heap.get?_push_of_some _ q
  obtain ⟨its, r, ht, hz⟩ := I5.tuple hx
  have hlen := r.length
  show wpAny (model X.prog X.w) X.A (subscriptTail e (.Slice none none (some (.UnaryOp .USub (.Constant (.int 1) k p1) p2)) p3) (.ref a) (.ref s4.heap.objs.size)) (EP X pins σ Q) X.xe { s4 with heap := s4.heap.push { cls := .type "slice", data := .fields #[vl, vu, vs] } }
  refine tail_any (ops := [.ref a, .ref s4.heap.objs.size]) ht.typeIs (PyProof.Rows.slot_tuple_getitem.lookup) ?_ (by with_unfolding_all rfl)
  refine getItem_tuple_rev ht (Heap.IsSliceOf.new _ vl vu vs) pl pu ps ?_ (by rw [List.size_toArray]; omega)
  refine ⟨.ref _, _, I5.laid (t' := s4.toks) (o := .tup xs.reverse) (fun b ob q => Heap.get?_push_of_some _ q) (Nat.le_refl _) ?_, rfl, q _ (I5.hok.fresh (Nat.le_refl _))⟩
  exact ⟨by rw [List.length_reverse]; exact hz, _, r.reverse, IsTup.new _ _⟩
theorem drev {k : Nat} {p1 p2 p3 : Pos} (he : PE X e (lft X.K Z fa)) : PE X (.Subscript e (.Slice none none (some (.UnaryOp .USub (.Constant (.int 1) k p1) p2)) p3) pos) (lft X.K Z (dUn gRev fa)) := PEimp (pe_revT he) fun σ H Q h => by
  obtain ⟨M, s, d, s', rl, hf, k⟩ := h
  obtain ⟨d1, h1, h3⟩ := dUn_some hf
  unfold gRev at h3
  split at h3
  · cases h3
    refine ⟨M, s, _, s', rl, h1, fun v H1 k1 r1 t1 => ?_⟩
    obtain ⟨a, xs, rfl, g1, u1⟩ := t1.tuple
    exact ⟨a, xs, rfl, g1, fun p hp => k _ _ (k1.trans (kq_grow (grow_new hp))) (r1.grow (grow_new hp)) (dt_newT r1.muT hp u1.rev)⟩
  · cases h3
end
end Dl

namespace Dl
open PySem PySem.Spec PyProof.Rows L2

/-! ### walked: a list, a tuple, a text's signs -/
def itA (f : DE) : DF := fun s => (f s).bind fun p => match p.1 with
  | .list ds => some (ds, p.2)
  | .tuple ds => some (ds, p.2)
  | .str x => some (signs x, p.2)
  | _ => none
def gNeg : PyData → Option PyData
  | .int i => some (.int (-i))
  | _ => none
/-- a constant of the module -/
def GC (K : PySem.W.Frag) (mg : Str → Option Value) (x : Str) (d : PyData) : Prop := ∃ u v, mg x = some u ∧ RelV v u ∧ ∀ mu H, Dt K mu H v d
/-- x op= e -/
def sAug (g : PyData → PyData → Option PyData) (i : Nat) (f : DE) : DS := fun s => (dVar i s).bind fun q => (f s).bind fun p => (g q.1 p.1).map fun d => .nx (p.2.set i (.dat d))
def gAddS : PyData → PyData → Option PyData
  | .int a, .int b => some (.int (a + b))
  | .str a, .str b => if a.length + b.length ≤ sizeLine then some (.str (a ++ b)) else none
  | _, _ => none
section
variable {X : Cx} {Z : Par} {tg a b e : Expr} {es : List Expr} {pos : Pos} {fa fb fc : DE} {ff : DF} {ga : DA} {st : Stmt} {sts : List Stmt} {f g : DS} {t : DT}
theorem pia (h : PE X e (lft X.K Z fa)) : PI X tg e (lfI X.K Z (itA fa)) := ⟨fun pins s0 σ H R I hq => by
  obtain ⟨M, s, ds, s', rl, hf, k⟩ := hq
  unfold itA at hf
  simp only [Option.bind_eq_some_iff] at hf
  obtain ⟨⟨d1, s1⟩, h1, h2⟩ := hf
  dsimp only at h2
  split at h2
  · cases h2
    exact (pil h).run pins s0 σ H R I ⟨M, s, _, _, rl, (by unfold itL; rw [h1]; rfl), k⟩
  · cases h2
    exact (pit h).run pins s0 σ H R I ⟨M, s, _, _, rl, (by unfold itT; rw [h1]; rfl), k⟩
  · cases h2
    exact (pis h).run pins s0 σ H R I ⟨M, s, _, _, rl, (by unfold itS; rw [h1]; rfl), k⟩
  · cases h2⟩
theorem ok_neg {K : PySem.W.Frag} : UnOk K (rU fun i => .int (-i)) gNeg := fun mu H x d1 d Q hm t1 e k => by
  unfold gNeg at e
  split at e
  · cases e
    exact ⟨_, t1.inti, k _ H (fun _ _ z => z) (.int _)⟩
  · cases e
theorem dgc {x : Str} {d : PyData} (hg : Gl X x) (c : GC X.K X.mg x d) (hd : (x == ("__debug__" : Str)) = false := by decide) : PE X (.Name x pos) (lft X.K Z (dC d)) := by
  obtain ⟨u, v, h1, h2, h3⟩ := c
  exact dg hg h1 h2 h3 hd
theorem ssetLc {i : Nat} {y x : Str} {py px : Pos} {elt iter : Expr} {ifs : List Expr} {scope : Scope} {j : Nat} {spos : Pos} (hc : X.calm = true) (hN : X.N.Nodup) (hy : X.N[i]? = some y) (hyl : X.env.scope.names.lookup y = some .local)
    (hsw : swapsWith (.ListComp elt [⟨.Name x px, iter, ifs, 0⟩] scope pos) (some (.Name y py)) spos.line X.env = pure true) (hi : PI X (.Name x px) iter (lfI X.K Z ff)) (ok : BlkOk X.N X.env.scope scope [(x, j)])
    (hg : ∀ (s : Shared) (H : Hp) (C : Addr) (cl : List (Str × Addr)) (fp : List Addr), PG (X.blk s H scope (compEnvC scope cl C X.env) fp) (.Name x px) (gName j))
    (ht : ∀ (s : Shared) (H : Hp) (C : Addr) (cl : List (Str × Addr)) (fp : List Addr) (Z : Par), PTs (X.blk s H scope (compEnvC scope cl C X.env) fp) ifs (lfT X.K Z t))
    (he : ∀ (s : Shared) (H : Hp) (C : Addr) (cl : List (Str × Addr)) (fp : List Addr) (Z : Par), PE (X.blk s H scope (compEnvC scope cl C X.env) fp) elt (lft X.K Z fa)) (hs : ∀ x, foldedSetIterable iter X.env x = pure x := by intro _; rfl) :
    PS X (.Assign [.Name y py] (.ListComp elt [⟨.Name x px, iter, ifs, 0⟩] scope pos) spos) (lfS X.K Z (sSet i (dL (fLc ff j t fa)))) :=
  PSimp (ps_setLc hc hN hy hyl hsw hi ok hg (tt := fun σ H Q => ∃ Z, lfT X.K Z t σ H Q) (te := fun σ H Q => ∃ Z, lft X.K Z fa σ H Q)
    (fun s H0 C cl fp => ⟨fun pins s' σ H Q I ⟨Z, q⟩ => (ht s H0 C cl fp Z).run pins s' σ H Q I q⟩) (fun s H0 C cl fp => ⟨fun pins s' σ H Q I ⟨Z, q⟩ => (he s H0 C cl fp Z).run pins s' σ H Q I q⟩) hs) fun D σ H h => by
  obtain ⟨M, s, fl, rl, h1, k⟩ := h
  unfold sSet dL at h1
  simp only [Option.map_eq_some_iff] at h1
  obtain ⟨⟨d, s1⟩, ⟨⟨ds, s2⟩, h1, h3⟩, h2⟩ := h1
  cases h3
  cases h2
  refine lift_lc (Z := Z) (t := t) (fa := fa) (ff := ff) (K := X.K) (j := j) (σ := σ) (H := H) (Q := fun x H1 => gName i x σ H1 D.nx) (fun Z _ _ _ q => ⟨Z, q⟩) (fun Z _ _ _ q => ⟨Z, q⟩) ⟨M, s, ds, _, rl, h1, fun p xs H' hp hx k1 r1 t1 => ?_⟩
  have td : Dt X.K (Mu Z M) H' (.ref p) (.list ds) := .lst (.inl hx) (fun q => by
    obtain ⟨o, e⟩ := rl.muT p q
    rw [hp] at e; cases e) (t1.mono kp_drop)
  obtain ⟨M', _, r2, k2⟩ := r1.unadd.setDat td i
  exact k M' _ H' (k1.trans k2) r2
theorem saug {i : Nat} {x : Str} {pos' : Pos} {op : Operator} {ti : TIp} {g : PyData → PyData → Option PyData} (hN : X.N.Nodup) (hi : X.N[i]? = some x) (hx : Loc X.env.scope x) (he : PE X e (lft X.K Z fa)) (ho : PIp X op ti) (ok : OpOk X.K ti g)
    (hf : X.fn x = true ∨ X.env.scope.names.lookup x = some .local := by first | exact .inl rfl | exact .inr rfl | assumption) : PS X (.AugAssign (.Name x pos') op e pos) (lfS X.K Z (sAug g i fa)) := PSimp (ps_aug hN hi hx he ho hf) fun D σ H h => by
  obtain ⟨M, s, fl, rl, h1, k⟩ := h
  unfold sAug at h1
  simp only [Option.bind_eq_some_iff, Option.map_eq_some_iff] at h1
  obtain ⟨⟨d0, s0⟩, h0, ⟨d1, s1⟩, h1, d2, h2, h3⟩ := h1
  cases h3
  obtain ⟨e0, _⟩ := dVar_some h0
  obtain ⟨v, g1, g2⟩ := rl.sl.get e0
  refine ⟨v, g1, M, s, d1, s1, rl, h1, fun w H1 k1 r1 t1 => ?_⟩
  refine ok (Mu Z M) H1 v w _ d1 d2 _ r1.muT (g2.mono k1.kp) t1 h2 fun z H2 gr t2 => ?_
  obtain ⟨M', _, r2, k2⟩ := (r1.grow gr).setDat t2 i
  exact k M' _ H2 (k1.trans ((kq_grow gr).trans k2)) r2
end

/-! ### a def that makes a list which nobody else has -/
def lfR (K : PySem.W.Frag) (Z : Par) (g : DF) : TS := fun D σ H => ∃ M s ds s', Rel K Z M σ H s ∧ g s = some (ds, s') ∧ ∀ M' σ' p xs H', Z.H0 p = none → H' p = some (.lst xs) → Rel K (Z.add p) M' σ' H' s' → DtAll K (Mu (Z.add p) M') H' xs ds → D.rt (.ref p) H'
def rSeq (f : DS) (g : DF) : DF := fun s => (f s).bind fun fl => match fl with
  | .nx s' => g s'
  | _ => none
section
variable {X : Cx} {Z : Par} {tg a b e : Expr} {es : List Expr} {pos : Pos} {fa fb fc : DE} {ff : DF} {ga : DA} {st : Stmt} {sts : List Stmt} {f : DS} {t : DT}
theorem rret (he : PE X e (lfF X.K Z ff)) : PS X (.Return (some e) pos) (lfR X.K Z ff) := PSimp (ps_ret he) fun D σ H h => by
  obtain ⟨M, s, ds, s', rl, hf, k⟩ := h
  refine ⟨M, s, ds, s', rl, hf, fun p xs H' hp hx k1 r1 t1 => k M σ p xs H' ?_ hx r1 t1⟩
  cases q : Z.H0 p with
  | none => rfl
  | some o =>
    have npp : Z.p ≠ some p := fun z => by
      obtain ⟨u, e⟩ := rl.pt p z
      rw [hp] at e; cases e
    have := rl.base p o q npp
    rw [hp] at this; cases this
theorem rone (h : PS X st (lfR X.K Z ff)) : PSs X [st] (lfR X.K Z ff) := pss_one h
theorem rcons (h1 : PS X st (lfS X.K Z f)) (h2 : PSs X sts (lfR X.K Z ff)) : PSs X (st :: sts) (lfR X.K Z (rSeq f ff)) := PSsimp (pss_cons h1 h2) fun D σ H h => by
  obtain ⟨M, s, ds, s', rl, hf, k⟩ := h
  unfold rSeq at hf
  simp only [Option.bind_eq_some_iff] at hf
  obtain ⟨fl, h1, h2⟩ := hf
  cases fl with
  | nx s1 => exact ⟨M, s, .nx s1, rl, h1, fun M1 σ1 H1 k1 r1 => ⟨M1, s1, ds, s', r1, h2, fun M' σ' p xs H' hp hx r2 t2 => k M' σ' p xs H' hp hx r2 t2⟩⟩
  | _ => cases h2
end
def fnF (N : List Str) (n : Nat) (g : DF) : List PyData → Option (List PyData) := fun ds => if ds.length = n then (g (startS N ds)).map (·.1) else none
theorem okF {P : Program} {w : World} {K : PySem.W.Frag} {mg : Str → Option Value} {base : Heap} {x qual : Str} {st : Stmt} {f : Addr} {fd : FuncData} {N ps : List Str} {k : Nat} {g : DF} (F : Fun K x qual st f fd) (S : FnScope N ps (defScope st))
    (hb : ∀ (cdv : Value) (A : Around) (outer : List Env) (s : Shared) (H : Hp) (E : XK) (Z : Par), Room k (A.deeper (envOfC qual (defScope st) s.heap.objs.size f cdv)) → PSs (cxOf CX0 P w K mg base N qual (defScope st) f cdv A outer s H E).nox (defBody st) (lfR K Z g)) :
    FnOk P w K mg base CX0 (k + 1) f fd ps (spF K (fnF N ps.length g)) := by
  refine F.ok S (fun vs H Q E h => ?_) (fun cdv A outer s H vs Q E hr h => ?_)
  · obtain ⟨mu, ds, es, h1, h2, h3, h4⟩ := h
    unfold fnF at h3
    split at h3
    · rename_i hl
      rw [h2.len]; exact hl
    · cases h3
  · obtain ⟨mu, ds, es, h1, h2, h3, h4⟩ := h
    unfold fnF at h3
    split at h3
    case isFalse => cases h3
    simp only [Option.map_eq_some_iff] at h3
    obtain ⟨⟨es', s'⟩, hq, h5⟩ := h3
    cases h5
    let Z : Par := ⟨H, none, mu⟩
    refine ⟨_, hb cdv A outer s H E Z hr, [], startS N ds, _, s', ?_, hq, fun M' σ' p xs H' hp hx r t => ?_⟩
    · have muE : ∀ a, Mu Z [] a → mu a := fun a q => by
        rcases q with q | q | q
        · exact q
        · cases q
        · cases q
      refine ⟨fun a o e _ => e, fun a ha => (by cases ha), h1, fun a ha => (by cases ha), ?_⟩
      unfold startS L2.start
      rw [h2.len]
      exact slAll_start _ (h2.mono fun a o e n => ⟨e, fun z => n (muE a z)⟩)
    · refine h4 p xs H' hp (fun a o e => r.base a o e (fun z => by cases z)) hx (t.mono fun a o e n => ⟨e, fun z => n ?_⟩)
      rcases z with z | z
      · exact .inl (.inl z)
      · exact .inl (.inr z)

/-! ### a def as it is called -/
def Cal (P : Program) (w : World) (K : PySem.W.Frag) (mg : Str → Option Value) (base : Heap) (k : Nat) (x : Str) (ps : List Str) (sp : Sp) : Prop := ∃ (f : Addr) (fd : FuncData), FnOk P w K mg base CX0 k f fd ps sp ∧ mg x = some (.ref f) ∧ PySem.W.keepIn K (.ref f) = true ∧ Binds K fd ps []
/-- where a def of the text stands -/
def Std (K : PySem.W.Frag) (mg : Str → Option Value) (x : Str) (st : Stmt) (ps : List Str) : Prop := ∃ (f : Addr) (fd : FuncData), Fun K x x st f fd ∧ mg x = some (.ref f) ∧ Binds K fd ps []
section
variable {P : Program} {w : World} {K : PySem.W.Frag} {mg : Str → Option Value} {base : Heap}
theorem calP {x : Str} {st : Stmt} {N ps : List Str} {k : Nat} {b : DS} (F : Std K mg x st ps) (S : FnScope N ps (defScope st))
    (hb : ∀ (f : Addr) (cdv : Value) (A : Around) (outer : List Env) (s : Shared) (H : Hp) (E : XK) (Z : Par), Room k (A.deeper (envOfC x (defScope st) s.heap.objs.size f cdv)) → PSs (cxOf CX0 P w K mg base N x (defScope st) f cdv A outer s H E).nox (defBody st) (lfS K Z b)) :
    Cal P w K mg base (k + 1) x ps (spP K (fnP N ps.length b)) := by
  obtain ⟨f, fd, F, hm, hb2⟩ := F
  exact ⟨f, fd, okP F S (fun cdv A outer s H E Z hr => hb f cdv A outer s H E Z hr), hm, F.kp, hb2⟩
theorem calM {x : Str} {st : Stmt} {N ps : List Str} {k : Nat} {b : DS} (F : Std K mg x st ps) (S : FnScope N ps (defScope st))
    (hb : ∀ (f : Addr) (cdv : Value) (A : Around) (outer : List Env) (s : Shared) (H : Hp) (E : XK) (Z : Par), Room k (A.deeper (envOfC x (defScope st) s.heap.objs.size f cdv)) → PSs (cxOf CX0 P w K mg base N x (defScope st) f cdv A outer s H E).nox (defBody st) (lfS K Z b)) :
    Cal P w K mg base (k + 1) x ps (spM K (fnM N ps.length b)) := by
  obtain ⟨f, fd, F, hm, hb2⟩ := F
  exact ⟨f, fd, okM F S (fun cdv A outer s H E Z hr => hb f cdv A outer s H E Z hr), hm, F.kp, hb2⟩
theorem calF {x : Str} {st : Stmt} {N ps : List Str} {k : Nat} {g : DF} (F : Std K mg x st ps) (S : FnScope N ps (defScope st))
    (hb : ∀ (f : Addr) (cdv : Value) (A : Around) (outer : List Env) (s : Shared) (H : Hp) (E : XK) (Z : Par), Room k (A.deeper (envOfC x (defScope st) s.heap.objs.size f cdv)) → PSs (cxOf CX0 P w K mg base N x (defScope st) f cdv A outer s H E).nox (defBody st) (lfR K Z g)) :
    Cal P w K mg base (k + 1) x ps (spF K (fnF N ps.length g)) := by
  obtain ⟨f, fd, F, hm, hb2⟩ := F
  exact ⟨f, fd, okF F S (fun cdv A outer s H E Z hr => hb f cdv A outer s H E Z hr), hm, F.kp, hb2⟩
theorem Std.noneM {x : Str} {st : Stmt} {ps : List Str} (c : Std K mg x st ps) (k : Nat) : Cal P w K mg base k x ps (spM K fun _ _ => none) := by
  obtain ⟨f, fd, F, hm, hb⟩ := c
  refine ⟨f, fd, ⟨fun vs H Q E h => ?_, fun A outer s H args us vs Q E hr e hb hv h => ?_⟩, hm, F.kp, hb⟩
  · obtain ⟨_, _, _, _, _, _, _, _, _, _, _, _, _, _, h, _⟩ := h
    cases h
  · obtain ⟨_, _, _, _, _, _, _, _, _, _, _, _, _, _, h, _⟩ := h
    cases h
theorem Std.noneP {x : Str} {st : Stmt} {ps : List Str} (c : Std K mg x st ps) (k : Nat) : Cal P w K mg base k x ps (spP K fun _ => none) := by
  obtain ⟨f, fd, F, hm, hb⟩ := c
  refine ⟨f, fd, ⟨fun vs H Q E h => ?_, fun A outer s H args us vs Q E hr e hb hv h => ?_⟩, hm, F.kp, hb⟩
  · obtain ⟨_, _, _, _, _, h, _⟩ := h
    cases h
  · obtain ⟨_, _, _, _, _, h, _⟩ := h
    cases h
theorem Cal.impP {x : Str} {ps : List Str} {k : Nat} {m m' : List PyData → Option PyData} (c : Cal P w K mg base k x ps (spP K m)) (h : ∀ ds d, m' ds = some d → m ds = some d) : Cal P w K mg base k x ps (spP K m') := by
  obtain ⟨f, fd, F, r⟩ := c
  refine ⟨f, fd, F.imp fun vs H Q E q => ?_, r⟩
  obtain ⟨mu, ds, d, h1, h2, h3, h4⟩ := q
  exact ⟨mu, ds, d, h1, h2, h ds d h3, h4⟩
theorem Cal.impM {x : Str} {ps : List Str} {k : Nat} {m m' : List PyData → List PyData → Option (PyData × List PyData)} (c : Cal P w K mg base k x ps (spM K m)) (h : ∀ pd ds d, m' pd ds = some d → m pd ds = some d) : Cal P w K mg base k x ps (spM K m') := by
  obtain ⟨f, fd, F, r⟩ := c
  refine ⟨f, fd, F.imp fun vs H Q E q => ?_, r⟩
  obtain ⟨mu, p, xs, pd, rest, ds, d, pd', h1, h2, h3, h4, h5, h6, h7, h8⟩ := q
  exact ⟨mu, p, xs, pd, rest, ds, d, pd', h1, h2, h3, h4, h5, h6, h _ _ _ h7, h8⟩
theorem Cal.mono {x : Str} {ps : List Str} {j k : Nat} {sp : Sp} (c : Cal P w K mg base j x ps sp) (h : j ≤ k) : Cal P w K mg base k x ps sp := by
  obtain ⟨f, fd, F, r⟩ := c
  exact ⟨f, fd, F.mono h, r⟩
end
section
variable {X : Cx} {Z : Par} {a b e : Expr} {es : List Expr} {pos : Pos} {fa fb fc : DE} {ff : DF} {ga : DA} {k j : Nat} {ps : List Str} {x : Str} {p : Pos}
theorem dcl {m : List PyData → Option PyData} (c : Cal X.prog X.w X.K X.mg X.base j x ps (spP X.K m)) (hr : Room k X.A) (hj : j ≤ k) (hg : Gl X x) (ha : PA X (e :: es) (lfA X.K Z ga)) (hx : Passes CX0 X E0 := by exact pass0)
    (hdb : (x == ("__debug__" : Str)) = false := by decide) (he : starEach (e :: es) X.env = (false, eval e X.env) :: starEach es X.env := by rfl) (hpl : (backTo pos (starEach es X.env)).any (·.1) = false := by rfl) :
    PE X (.Call (.Name x p) (e :: es) [] pos) (lft X.K Z (dCall m ga)) := by
  obtain ⟨f, fd, F, hm, hk, hb⟩ := c
  exact dcall F (hr.mono hj) hg hm hk hb ha hx hdb he hpl
theorem dcl0 {m : List PyData → Option PyData} (c : Cal X.prog X.w X.K X.mg X.base j x ps (spP X.K m)) (hr : Room k X.A) (hj : j ≤ k) (hg : Gl X x) (hx : Passes CX0 X E0 := by exact pass0)
    (hdb : (x == ("__debug__" : Str)) = false := by decide) : PE X (.Call (.Name x p) [] [] pos) (lft X.K Z (dCall m aNil)) := by
  obtain ⟨f, fd, F, hm, hk, hb⟩ := c
  exact dcall0 F (hr.mono hj) hg hm hk hb hx hdb
theorem dclM {m : List PyData → List PyData → Option (PyData × List PyData)} (i : Nat) (c : Cal X.prog X.w X.K X.mg X.base j x ps (spM X.K m)) (hr : Room k X.A) (hj : j ≤ k) (hg : Gl X x) (h1 : PE X e (tVar i)) (ha : PA X es (lfA X.K Z ga)) (hx : Passes CX0 X E0 := by exact pass0)
    (hdb : (x == ("__debug__" : Str)) = false := by decide) (he : starEach (e :: es) X.env = (false, eval e X.env) :: starEach es X.env := by rfl) (hpl : (backTo pos (starEach es X.env)).any (·.1) = false := by rfl) :
    PE X (.Call (.Name x p) (e :: es) [] pos) (lft X.K Z (dCallM m i ga)) := by
  obtain ⟨f, fd, F, hm, hk, hb⟩ := c
  exact dcallM i F (hr.mono hj) hg hm hk hb h1 ha hx hdb he hpl
theorem fcl {m : List PyData → Option (List PyData)} (c : Cal X.prog X.w X.K X.mg X.base j x ps (spF X.K m)) (hr : Room k X.A) (hj : j ≤ k) (hg : Gl X x) (ha : PA X (e :: es) (lfA X.K Z ga)) (hx : Passes CX0 X E0 := by exact pass0)
    (hdb : (x == ("__debug__" : Str)) = false := by decide) (he : starEach (e :: es) X.env = (false, eval e X.env) :: starEach es X.env := by rfl) (hpl : (backTo pos (starEach es X.env)).any (·.1) = false := by rfl) :
    PE X (.Call (.Name x p) (e :: es) [] pos) (lfF X.K Z (fCall m ga)) := by
  obtain ⟨f, fd, F, hm, hk, hb⟩ := c
  exact fcall F (hr.mono hj) hg hm hk hb ha hx hdb he hpl
end
end Dl

/-! ### len(set(..)) of texts -/
namespace Dl
open PySem PySem.Spec PyProof.Rows L2
/-- how many unlike ones -/
def unlike : List Str → List Str → Nat
  | _, [] => 0
  | seen, z :: r => if z ∈ seen then unlike seen r else unlike (z :: seen) r + 1
/-- .. among the first i -/
def unl (zs : List Str) : Nat → Nat
  | 0 => 0
  | i + 1 => match zs[i]? with
    | some z => if z ∈ zs.take i then unl zs i else unl zs i + 1
    | none => unl zs i
theorem unl_le (zs : List Str) : ∀ i, unl zs i ≤ i
  | 0 => Nat.le_refl _
  | i + 1 => by
    have h := unl_le zs i
    unfold unl
    split
    · split <;> omega
    · omega
theorem setOf_as {P : Program} {w : World} {h : Heap} {a : Addr} {S S' : Str → Bool} {n n' : Nat} (R : h.SetOf (PySem.strKind P w) a S n) (e : ∀ k, S k = S' k) (en : n = n') : h.SetOf (PySem.strKind P w) a S' n' := by
  have e' : S = S' := funext e
  subst e' en
  exact R
theorem setOf_moved {P : Program} {w : World} {h h' : Heap} {a : Addr} {S : Str → Bool} {n : Nat} (R : h.SetOf (PySem.strKind P w) a S n) (k : ∀ o, h.get? a = some o → h'.get? a = some o) : h'.SetOf (PySem.strKind P w) a S n := by
  obtain ⟨o, es, ep, t, ho, r⟩ := R
  exact ⟨o, es, ep, t, k o ho, r⟩
section
variable {P : Program} {w : World} {A : Around} {E : Value → Shared → Prop} {s : Shared}
theorem set_fill {I : Addr} {fp wr : List Addr} {G : Array GenState → Array GenState → Prop} {n : Nat} {Pv : Nat → Value → Prop} {St : Nat → Shared → Prop} {R : Result → Shared → Prop}
    (W : WalksS P w A.in1 I fp wr G n Pv St) (a : Addr) (out : a ∉ fp) (zs : List Str) (hn : n = zs.length) (few : zs.length + 1 < scanBound) (vals : ∀ i v, Pv i v → ∃ z t, zs[i]? = some z ∧ v = .str z t) (left : Nat) :
    ∀ (i : Nat) (s : Shared), n - i = left → i ≤ n → St i s → s.heap.SetOf (PySem.strKind P w) a (fun k => decide (k ∈ zs.take i)) (unl zs i) →
      (∀ s', Moved (a :: wr) G s s' → s'.heap.SetOf (PySem.strKind P w) a (fun k => decide (k ∈ zs)) (unl zs n) → R (.ok (.ret .none)) s') → codeAny (model P w) A (.builtin "set.update.loop" ⟨[.ref a, .ref I], []⟩) R s := by
  have outw : a ∉ wr := fun h => out (W.sub _ h)
  have more : ∀ b ∈ wr, b ∈ a :: wr := fun b hb => List.mem_cons_of_mem _ hb
  induction left with
  | zero =>
    intro i s hl hi hst hS hR
    obtain rfl : i = n := by omega
    refine codeAny_builtin F.entry_set_update_loop ?_
    rw [Around.under_plainId F.plain_set_update_loop _]
    show wpAny _ A.in1 (pyNext (.ref I) >>= _) _ _ s
    refine wpAny_bind (W.done s _ _ hst fun s' mv => ?_)
    show wpAny _ A.in1 (ret Value.none) _ _ s'
    rw [List.take_of_length_le (show zs.length ≤ i by omega)] at hS
    exact wpAny_pure (hR s' (mv.mono more) (setOf_moved hS fun o e => mv.heap a o outw e))
  | succ left ih =>
    intro i s hl hi hst hS hR
    have lt : i < n := by omega
    refine codeAny_builtin F.entry_set_update_loop ?_
    rw [Around.under_plainId F.plain_set_update_loop _]
    show wpAny _ A.in1 (pyNext (.ref I) >>= _) _ _ s
    refine wpAny_bind (W.item i s _ _ lt hst fun v s' hP hst' mv => ?_)
    obtain ⟨z, t, hz, rfl⟩ := vals i v hP
    have hS' := setOf_moved hS (h' := s'.heap) fun o e => mv.heap a o outw e
    show wpAny _ A.in1 (holding [Value.str z t] (setAdd a (.str z t)) >>= _) _ _ s'
    refine wpAny_bind (wpAny_holding ?_)
    unfold setAdd
    refine wpAny_holding (wpAny_bind ((PySem.strKind P w).pyHash (k := z) (strKind_is _ _ _ _) ?_))
    have small : unl zs i + 1 < scanBound := by have := unl_le zs i; omega
    refine wpAny_setAddHashed_of (knd := PySem.strKind P w) (s := { s' with toks := s'.toks + 1 }) (strKind_is _ _ _ _) rfl hS' small fun h' same hS2 => ?_
    have hS3 : h'.SetOf (PySem.strKind P w) a (fun k => decide (k ∈ zs.take (i + 1))) (unl zs (i + 1)) := by
      refine setOf_as hS2 (fun k => ?_) ?_
      · rw [List.take_add_one, hz]
        simp [List.mem_append]
      · show (if decide (z ∈ zs.take i) = true then unl zs i else unl zs i + 1) = unl zs (i + 1)
        rw [unl, hz]
        simp only [decide_eq_true_eq]
    refine wpAny_pure ⟨plainId_quiet F.plain_set_update_loop _, ih (i + 1) _ (by omega) lt (W.frame _ s' _ _ hst' (Nat.le_succ _) fun b hb o e => ?_) hS3 fun s'' mv2 hS4 => ?_⟩
    · have nb : b ≠ a := fun h => out (h ▸ hb)
      rw [same.2 b nb]; exact e
    · refine hR s'' (Moved.trans W.gtrans ((mv.mono more).then_heap (Nat.le_succ _) fun b o hb e => ?_) mv2) hS4
      have nb : b ≠ a := fun h => hb (h ▸ List.mem_cons_self)
      rw [same.2 b nb]; exact e
/-- the set ahead of its items -/
def emptySet (w : World) : Obj := { cls := .type "set", dict := none, data := .set #[] 0 (.fresh 0 0 (!w.params.followText "set-order")) }
theorem strs_item {us : List Value} {zs : List Str} (h : StrsAre us zs) : ∀ {i : Nat} {v : Value}, us[i]? = some v → ∃ z t, zs[i]? = some z ∧ v = .str z t := by
  induction h with
  | nil => intro i v e; simp at e
  | cons z t r ih =>
    intro i v e
    cases i with
    | zero => simp at e; exact ⟨z, t, rfl, e.symm⟩
    | succ i => simpa using ih (by simpa using e)
theorem new_setOf {h : Heap} {a : Addr} {zs : List Str} (e : h.get? a = some (emptySet w)) : h.SetOf (PySem.strKind P w) a (fun k => decide (k ∈ zs.take 0)) (unl zs 0) :=
  ⟨_, #[], 0, _, e, ⟨rfl, rfl, rfl⟩, rfl, (fun e he => by simp at he), (fun k => by simp), (by decide), (by rfl), rfl⟩
set_option maxHeartbeats 8000000 in
theorem call_set_texts {l : Addr} {items : Array Value} (zs : List Str) {Q : Value → Shared → Prop} (cold : A.handled = none) (hl : s.heap.IsTuple l items) (hit : StrsAre items.toList zs) (few : zs.length + 1 < scanBound)
    (h : ∀ (h' : Heap) (tk : Nat), h'.SetOf (PySem.strKind P w) s.heap.objs.size (fun k => decide (k ∈ zs)) (unl zs zs.length) → (∀ b o, s.heap.get? b = some o → h'.get? b = some o) → Q (.ref s.heap.objs.size) { s with heap := h', toks := tk }) :
    wpAny (model P w) A (call (.type "set") [.ref l]) Q E s := by
  have size : items.size = zs.length := by
    have q := StrsAre.length hit
    rw [Array.length_toList] at q
    exact q
  obtain ⟨c, tl, hmro⟩ := F.called_set.mro
  have hmade := F.called_set.made
  have hsub := F.called_set.sub
  refine wpAny_call (codeAny_of_tree ?_)
  show wpAny _ _ (callAny (.type "set") _) _ _ _
  refine wpAny_pure ⟨Code.quiet_builtin _ (by decide +kernel), codeAny_builtin F.entry_type_call ?_⟩
  rw [Around.under_plain (weight_type_call_type "set" [.ref l] []) rfl]
  have h1 := F.called_set.notType
  have h2 := F.called_set.canCreate
  have hct := F.typeCall_set_1 (.ref l)
  repeat (any_goals (first | assumption | wp_step))
  refine codeAny_mono (code_set_led1 (.ref l) (E := E) (Q₁ := fun obj s₁ => obj = .ref s.heap.objs.size ∧ s₁ = { s with heap := s.heap.push (emptySet w) }) ⟨rfl, rfl⟩) fun r s₁ hr => ?_
  cases r with
  | error e => exact hr
  | ok fl =>
    cases fl with
    | ret obj =>
      obtain ⟨rfl, rfl⟩ := hr
      have hS : (s.heap.push (emptySet w)).get? s.heap.objs.size = some (emptySet w) := Heap.get?_push_size _ rfl
      have hT : Shared.TypeIs { s with heap := s.heap.push (emptySet w) } (.ref s.heap.objs.size) "set" := ⟨_, hS, rfl⟩
      have hli := F.called_set.init.lookup
      have hbi := F.called_set.init.bind (.ref s.heap.objs.size)
      repeat (any_goals (first | assumption | wp_step))
      refine codeAny_mono (codeAny_call_builtin (R := wants (fun r s₂ => r = .none ∧ ∃ h' tk, s₂ = { s with heap := h', toks := tk } ∧ h'.SetOf (PySem.strKind P w) s.heap.objs.size (fun k => decide (k ∈ zs)) (unl zs zs.length) ∧
          (∀ b o, s.heap.get? b = some o → h'.get? b = some o)) E) F.called_set.init.plain F.entry_set_init (check_set_init_1 hT ?_)) fun r₂ s₂ hr₂ => ?_
      · obtain ⟨⟨ocls, odict, odata, oslots⟩, hol, hcl, nl, hdl⟩ := hl
        simp only at hcl hdl
        subst hcl hdl
        have hol' : (s.heap.push (emptySet w)).get? l = some { cls := .type "tuple", dict := odict, data := .seq items nl, slots := oslots } := Heap.get?_push_of_some _ hol
        have hsls := F.sub_tuple_set
        have hslf := F.sub_tuple_frozenset
        have hne : (Value.type "tuple" == Value.type "dict") = false := by decide
        have hl1 : (s.heap.push (emptySet w)).IsTuple l items := ⟨_, hol', rfl, nl, rfl⟩
        unfold Builtin.«set.__init__» noKeywords Builtin.Frozenset.updateFrom
        generalize hPI : pyIter = PI
        wp_walk
        subst hPI
        refine wpAny_pyIter_tuple hl1 ?_
        refine wpAny_bind (wpAny_runValue ?_)
        have lS : l < s.heap.objs.size := Heap.lt_size hol
        have cold3 : A.in1.in1.in1.handled = none := by simp [cold]
        have apart : l ≠ (s.heap.push (emptySet w)).objs.size := by
          rw [Heap.size_push]; exact Nat.ne_of_lt (Nat.lt_succ_of_lt lS)
        have out : s.heap.objs.size ∉ [(s.heap.push (emptySet w)).objs.size, l] := by
          rw [Heap.size_push]; simp only [List.mem_cons, List.mem_singleton, List.not_mem_nil, or_false, not_or]
          exact ⟨Nat.ne_of_lt (Nat.lt_succ_self _), Nat.ne_of_gt lS⟩
        have vals : ∀ (i : Nat) (v : Value), items[i]? = some v → ∃ z t, zs[i]? = some z ∧ v = .str z t := fun i v hv => strs_item hit (by rw [Array.getElem?_toList]; exact hv)
        refine set_fill ((Walks.tuple cold3 _ l apart items).toS) s.heap.objs.size out zs size few vals (items.size - 0) 0 _ (by omega) (Nat.zero_le _) ⟨⟨_, Heap.get?_push_size _ rfl, rfl, rfl⟩, (hl1.push _)⟩ ?hS0 ?hR
        case hS0 => exact new_setOf (Heap.get?_push_of_some _ hS)
        case hR =>
          intro s' mv hS'
          obtain ⟨h', g2, d', tk', os'⟩ := s'
          have eg : g2 = s.gens := mv.gens
          have ed : d' = s.drawn := mv.drawn
          have eo : os' = s.os := mv.os
          subst eg; subst ed; subst eo
          show wpAny _ _ _ _ _ _
          refine wpAny_pure ?_
          show wpAny _ _ (ret Value.none) _ _ _
          rw [size] at hS'
          refine wpAny_pure ⟨rfl, h', tk', rfl, hS', fun b o e => ?_⟩
          have b0 : b < s.heap.objs.size := Heap.lt_size e
          have b1 : b ≠ s.heap.objs.size := Nat.ne_of_lt b0
          have b2 : b ≠ (s.heap.push (emptySet w)).objs.size := by
            rw [Heap.size_push]; exact Nat.ne_of_lt (Nat.lt_succ_of_lt b0)
          exact mv.heap b o (by simp only [List.mem_cons, List.mem_singleton, List.not_mem_nil, or_false, not_or]; exact ⟨b1, b2⟩) (Heap.get?_push_of_some _ (Heap.get?_push_of_some _ e))
      · cases r₂ with
        | error e => exact hr₂
        | ok fl₂ =>
          cases fl₂ with
          | ret r =>
            obtain ⟨rfl, h', tk, rfl, hS', hk'⟩ := hr₂
            repeat (any_goals (first | assumption | wp_step))
            exact h _ _ hS' hk'
          | _ => exact hr₂.elim
    | _ => exact hr.elim
end
/-- len(set(xs)) of texts -/
def strsS : List PyData → Option (List Str)
  | [] => some []
  | .str z :: r => (strsS r).map (z :: ·)
  | _ => none
def gLenSet : PyData → Option PyData
  | .tuple ds => (strsS ds).bind fun zs => if zs.length + 1 < scanBound then some (.int (unl zs zs.length)) else none
  | _ => none
section
variable {X : Cx} {Z : Par} {fa : DE}
theorem strsS_of {K : PySem.W.Frag} {mu : Addr → Prop} {H : Hp} : ∀ {ds : List PyData} {zs : List Str} {xs : List V}, strsS ds = some zs → DtAll K mu H xs ds → xs = zs.map V.str
  | [], _, _, e, .nil => by cases e; rfl
  | d :: ds, zs, _, e, .cons (v := v) h r => by
    unfold strsS at e
    split at e
    · rename_i q; cases q
    · rename_i z r' q
      cases q
      simp only [Option.map_eq_some_iff] at e
      obtain ⟨zs', e1, rfl⟩ := e
      rw [strsS_of e1 r, h.text]
      rfl
    · cases e
theorem dlenset {a : Expr} {p p2 q pos : Pos} (hc : X.calm = true) (hg : Gl X "len") (hm : X.mg "len" = none) (hg2 : Gl X "set") (hm2 : X.mg "set" = none) (ha : PE X a (lft X.K Z fa))
    (na : starEach [a] X.env = (false, eval a X.env) :: starEach [] X.env := by rfl) : PE X (.Call (.Name "len" p) [.Call (.Name "set" p2) [a] [] q] [] pos) (lft X.K Z (dUn gLenSet fa)) := by
  refine ⟨fun pins s σ H Q I h => ?_⟩
  obtain ⟨M, sl, d, sl', rl, hf, k⟩ := h
  obtain ⟨d1, f1, g1⟩ := dUn_some hf
  refine Call_ (ld_blt I hg hm boot_len ?_)
  refine PyProof.Rows.callWith_builtin1 (PyProof.Rows.args_cons ?_ rfl) rfl rfl
  refine Call_ (ld_blt I hg2 hm2 boot_set ?_)
  refine PyProof.Rows.callWith_type1 (PyProof.Rows.args_cons (thn (ha.run pins s σ H (fun v H1 => Kq Z M H M H1 ∧ Rel X.K Z M σ H1 sl' ∧ Dt X.K (Mu Z M) H1 v d1) I ⟨M, sl, d1, sl', rl, f1, fun v H' k1 r1 t1 => ⟨k1, r1, t1⟩⟩) fun v s1 ⟨x, H1, I1, r1, k1, r2, t1⟩ => PyProof.Rows.args_nil ?_) na) na rfl
  unfold gLenSet at g1
  split at g1
  case h_2 => cases g1
  rename_i ds
  simp only [Option.bind_eq_some_iff] at g1
  obtain ⟨zs, e1, e2⟩ := g1
  split at e2
  case isFalse => cases e2
  rename_i few
  cases e2
  obtain ⟨l, xs, rfl, hq, u1⟩ := t1.tuple
  obtain rfl := strsS_of e1 u1
  cases r1
  obtain ⟨its, r, pl, hz⟩ := I1.tuple hq
  refine call_set_texts zs (I1.ok.hd hc) pl (by simpa using strsAre_of r) few fun h' tk hS hk => ?_
  refine PyProof.Rows.args_nil ?_
  obtain ⟨o, es, ep, t, ho, hex, hd, _, _, _, hf', hn⟩ := hS
  have I2 : Inv X pins σ H1 { s1 with heap := h', toks := tk } := I1.kept fun b o e => hk b o e
  have := unl_le zs zs.length
  exact call_len_set ho hex hd hf' (by rw [hn]; unfold scanBound at few; omega) ⟨.int (unl zs zs.length), H1, I2.tok _, ⟨_, by rw [hn]⟩, k _ H1 k1 r2 (.int _)⟩
end
end Dl

/-! ### repr of data -/
namespace Dl
open PySem PySem.Spec PyProof.Rows L2
/-- what is known where a text of a thing is made: no text of a thing is being made, and where the modules' table stands -/
structure CG (X : Cx) : Prop where
  gd : X.A.guards = some []
  un : X.A.units + 100 < cLine
  sys : ∃ o es n, X.base.get? sysModules = some o ∧ o.data = .dict es n

mutual
def realAll : PyData → Bool
  | .list xs | .tuple xs => realAlls xs
  | .dict kvs => realKvs kvs
  | _ => true
def realAlls : List PyData → Bool
  | [] => true
  | x :: xs => realAll x && realAlls xs
def realKvs : List (PyData × PyData) → Bool
  | [] => true
  | (.none, _) :: _ => false
  | (_, v) :: r => realAll v && realKvs r
end
def gRepr : List PyData → Option PyData
  | [d] => if d.showable && realAll d && decide (d.shown.length ≤ sizeLine) && decide (d.depth ≤ 60) then some (.str d.shown) else none
  | _ => none

section
variable {X : Cx} {pins : List (Addr × Obj)} {σ : L2.St} {H : Hp} {s : Shared} {mu : Addr → Prop}
theorem sys_not (I : Inv X pins σ H s) (c : CG X) : H sysModules = none ∧ ∃ o es n, s.heap.get? sysModules = some o ∧ o.data = .dict es n := by
  obtain ⟨o, es, n, h1, h2⟩ := c.sys
  exact ⟨(I.bs _ _ h1).2, o, es, n, (I.bs _ _ h1).1, h2⟩
theorem list_not_sys {a : Addr} {its : Array Value} (I : Inv X pins σ H s) (c : CG X) (p : PlainL s.heap a its) : sysModules ≠ a := fun e => by
  obtain ⟨_, o, es, n, h1, h2⟩ := sys_not I c
  obtain ⟨o', n', q1, _, _, q2⟩ := p
  rw [e] at h1
  rw [h1] at q1
  cases q1
  rw [h2] at q2
  cases q2
mutual
theorem reads_of (I : Inv X pins σ H s) (c : CG X) : ∀ {v : V} {u : Value} {d : PyData}, Dt X.K mu H v d → RelV v u → realAll d = true → ∃ as, Reads s.heap u d as ∧ sysModules ∉ as
  | _, _, _, .non, r, _ => by cases r; exact ⟨[], .none, by simp⟩
  | _, _, _, .bl b, r, _ => by cases r; exact ⟨[], .bool b, by simp⟩
  | _, _, _, .int i, r, _ => by obtain ⟨t, rfl⟩ := r; exact ⟨[], .int i t, by simp⟩
  | _, _, _, .str x, r, _ => by obtain ⟨t, rfl⟩ := r; exact ⟨[], .str x t, by simp⟩
  | _, _, _, .lst h _ t, r, g => by
    cases r
    obtain ⟨its, r, p, _⟩ := I.list (.inl h)
    obtain ⟨as, h1, h2⟩ := readsAll_of I c t r (by simpa [realAll] using g)
    have ns := list_not_sys I c p
    obtain ⟨o, n, q1, q2, _, q3⟩ := p
    exact ⟨_, .list q1 q2 q3 (by simpa using h1), by simp [ns, h2]⟩
  | _, _, _, .scr h t, r, g => by simp [realAll, realKvs] at g
  | _, _, _, .tup h _ t, r, g => by
    cases r
    obtain ⟨its, r, ⟨o, q1, q2, n, q3⟩, _⟩ := I.tuple (.inl (.inl h))
    obtain ⟨as, h1, h2⟩ := readsAll_of I c t r (by simpa [realAll] using g)
    exact ⟨_, .tuple q1 q2 q3 (by simpa using h1), h2⟩
  | _, _, _, .tupK h _ t, r, g => by
    cases r
    obtain ⟨its, r, ⟨o, q1, q2, n, q3⟩, _⟩ := I.tuple (h H)
    obtain ⟨as, h1, h2⟩ := readsAll_of I c t r (by simpa [realAll] using g)
    exact ⟨_, .tuple q1 q2 q3 (by simpa using h1), h2⟩
  | _, _, _, .dct (a := a) h _ t, r, g => by
    cases r
    obtain ⟨_, ns, vs, kv, o, es, ep, q1, q2, q3, _, q4, _⟩ := I.hok _ _ h
    obtain ⟨as, bs, h1, h2, h3, h4⟩ := readsKv_of I c t kv q4 (by simpa [realAll] using g)
    exact ⟨_, .dict q1 q2.1 q3 h1 h2, by
      have no : sysModules ≠ a := fun e => (by rw [← e] at ns; simp at ns)
      simp [h3, h4, no]⟩
theorem readsAll_of (I : Inv X pins σ H s) (c : CG X) : ∀ {vs : List V} {us : List Value} {ds : List PyData}, DtAll X.K mu H vs ds → Vals vs us → realAlls ds = true → ∃ as, ReadsAll s.heap us ds as ∧ sysModules ∉ as
  | _, _, _, .nil, r, _ => by cases r; exact ⟨[], .nil, by simp⟩
  | _, _, _, .cons h t, .cons r1 r2, g => by
    simp only [realAlls, Bool.and_eq_true] at g
    obtain ⟨as, h1, h2⟩ := reads_of I c h r1 g.1
    obtain ⟨bs, h3, h4⟩ := readsAll_of I c t r2 g.2
    exact ⟨as ++ bs, .cons h1 h3, by simp [h2, h4]⟩
theorem readsKv_of (I : Inv X pins σ H s) (c : CG X) : ∀ {kvs : List (Key × V)} {vs : List (Key × Value)} {es : List DictEntry} {ds : List (PyData × PyData)}, DtKv X.K mu H kvs ds → KV kvs vs → Pairs (mixKind X.prog X.w) es vs → realKvs ds = true →
    ∃ as bs, ReadsAll s.heap (es.map (·.key)) (ds.map (·.1)) as ∧ ReadsAll s.heap (es.map (·.val)) (ds.map (·.2)) bs ∧ sysModules ∉ as ∧ sysModules ∉ bs
  | _, _, _, _, .nil, r, p, _ => by cases r; cases p; exact ⟨[], [], .nil, .nil, by simp, by simp⟩
  | _, _, _, _, .cons (k := k) (d := d) (ds := dr) h t, .cons (b := q) r1 r2, .cons p1 p2 p3, g => by
    obtain ⟨k', u⟩ := q
    obtain ⟨e1, r1⟩ := r1
    have e1' : k = k' := e1
    subst e1'
    have g' : realAll d = true ∧ realKvs dr = true := by
      cases k with
      | inl i => simpa [kD, realKvs] using g
      | inr x => simpa [kD, realKvs] using g
    obtain ⟨as, bs, h1, h2, h3, h4⟩ := readsKv_of I c t r2 p3 g'.2
    obtain ⟨cs, h5, h6⟩ := reads_of I c h r1 g'.1
    rw [List.map_cons, List.map_cons, List.map_cons, List.map_cons, p2]
    refine ⟨as, cs ++ bs, ?_, .cons h5 h2, h3, by simp [h6, h4]⟩
    rcases keyIs_shape p1 with ⟨i, t, e3, e4⟩ | ⟨x, t, e3, e4⟩
    · have e3' : k = Sum.inl i := e3
      subst e3'
      rw [e4]
      exact .cons (as := []) (.int i t) h1
    · have e3' : k = Sum.inr x := e3
      subst e3'
      rw [e4]
      exact .cons (as := []) (.str x t) h1
end
end
section
variable {X : Cx}
/-- what repr wants and gives -/
def rRepr (K : PySem.W.Frag) : List V → Hp → VK → Prop := fun xs H Q => ∃ mu d, DtAll K mu H xs [d] ∧ (d.showable && realAll d && decide (d.shown.length ≤ sizeLine) && decide (d.depth ≤ 60)) = true ∧ Q (.str d.shown) H
theorem call_repr (c : CG X) : CallR X (.builtin "repr") (rRepr X.K) := by
  intro pins s σ H xs us Q I r h
  obtain ⟨mu, d, t, g, q⟩ := h
  simp only [Bool.and_eq_true, decide_eq_true_eq] at g
  obtain ⟨⟨⟨g1, g2⟩, g3⟩, g4⟩ := g
  cases t with
  | cons h t =>
  cases t
  cases r with
  | cons r1 r2 =>
  cases r2
  obtain ⟨as, h1, h2⟩ := reads_of I c h r1 g2
  have out : ∀ {s' : Shared} {t : Tok}, Inv X pins σ H s' → EP X pins σ Q (.str d.shown t) s' := fun {s' t} I' => ⟨.str d.shown, H, I', ⟨t, rfl⟩, q⟩
  cases h1 with
  | none => exact P.repr_of_none (out (I.tok _))
  | bool b => exact P.repr_of_bool (by have z := out (t := s.toks) (I.tok (s.toks + 1)); simpa [PyData.shown] using z)
  | int i t => exact P.repr_of_int (by simpa [PyData.showable] using g1) (by have z := out (t := s.toks) (I.tok (s.toks + 1)); simpa [PyData.shown] using z)
  | str x t => exact P.repr_of_str (by have z := out (t := s.toks) (I.tok (s.toks + 1)); simpa [PyData.shown] using z) (by simpa [PyData.shown] using g3)
  | list a1 a2 a3 a4 => exact repr_of_reads' (.list a1 a2 a3 a4) g1 (fun _ => h2) c.gd (by have := c.un; omega) (fun _ _ e => e) (fun h' u tk hk => out (I.kept hk)) g3
  | tuple a1 a2 a3 a4 => exact repr_of_reads' (.tuple a1 a2 a3 a4) g1 (fun _ => h2) c.gd (by have := c.un; omega) (fun _ _ e => e) (fun h' u tk hk => out (I.kept hk)) g3
  | dict a1 a2 a3 a4 a5 => exact repr_of_reads' (.dict a1 a2 a3 a4 a5) g1 (fun _ => h2) c.gd (by have := c.un; omega) (fun _ _ e => e) (fun h' u tk hk => out (I.kept hk)) g3
theorem ok_repr {K : PySem.W.Frag} : CallOk K (rRepr K) gRepr := fun mu H xs ds d Q _ t e k => by
  unfold gRepr at e
  split at e
  · split at e
    case isFalse => cases e
    rename_i hg
    cases e
    exact ⟨mu, _, t, hg, k _ H (fun _ _ z => z) (.str _)⟩
  · cases e
end
end Dl

/-! ### the law's own call -/
namespace Dl
open PySem PySem.Spec PyProof.Rows L2
section
variable {P : Program} {w : World} {K : PySem.W.Frag} {mg : Str → Option Value} {base : Heap}
/-- a body of data run at the values handed in -/
theorem lf_start {N : List Str} {n : Nat} {b : DS} {vs : List V} {H : Hp} {Q : VK} {E : XK} (h : spP K (fnP N n b) vs H Q E) : ∃ Z : Par, lfS K Z b { nx := fun _ H' => Q .non H', rt := Q } (L2.start N vs) H := by
  obtain ⟨mu, ds, d, h1, h2, h3, h4⟩ := h
  unfold fnP at h3
  split at h3
  case isFalse => cases h3
  refine ⟨⟨H, none, mu⟩, [], startS N ds, ?_⟩
  have back : ∀ a, Mu ⟨H, none, mu⟩ [] a → mu a := fun a q => q.elim id fun q => q.elim (fun z => by cases z) fun z => by cases z
  have r : Rel K ⟨H, none, mu⟩ [] (L2.start N vs) H (startS N ds) := by
    refine ⟨fun _ _ e _ => e, fun _ ha => (by cases ha), h1, fun _ ha => (by cases ha), ?_⟩
    unfold startS L2.start
    rw [h2.len]
    exact slAll_start _ (h2.mono fun a o e n => ⟨e, fun z => n (back a z)⟩)
  have keep : ∀ {M : List Addr} {σ : L2.St} {H1 : Hp} {s1 : Sl}, Rel K ⟨H, none, mu⟩ M σ H1 s1 → ∀ a o, H a = some o → H1 a = some o := fun r1 a o e => r1.base a o e fun z => by cases z
  unfold outP at h3
  split at h3
  · rename_i d1 s1 hq
    cases h3
    exact ⟨_, r, hq, fun M σ H1 v k1 r1 t1 => h4 v H1 (keep r1) (t1.mono fun a o e n => ⟨e, fun z => n (.inl z)⟩)⟩
  · rename_i s1 hq
    cases h3
    exact ⟨_, r, hq, fun M σ H1 k1 r1 => h4 _ H1 (keep r1) .non⟩
  · cases h3
/-- a def of data, called where all around is known -/
theorem run_here {x p : Str} {st : Stmt} {f : Addr} {fd : FuncData} {N : List Str} {k : Nat} {b : DS} {A : Around} {outer : List Env} {s : Shared} {H : Hp} {u : Value} {v : V} {Q : VK}
    (F : Fun K x x st f fd) (S : FnScope N [p] (defScope st)) (room : Room (k + 1) A) (e0 : Env0 P w K mg base A outer s H) (bt : BindsTo s fd ⟨[u], []⟩ [(p, u)]) (rv : RelV v u)
    (hb : ∀ (cdv : Value) (Z : Par), Room k (A.deeper (envOfC x (defScope st) s.heap.objs.size f cdv)) → PSs (cxOf CX0 P w K mg base N x (defScope st) f cdv A outer s H E0).nox (defBody st) (lfS K Z b)) (q : spP K (fnP N 1 b) [v] H Q E0) :
    codeAny (model P w) A (.call (.ref f) ⟨[u], []⟩) (CR CX0 outer P w H s Q E0) s := by
  obtain ⟨⟨oc, od, kV, doc, pm, an, cdv, ct, osl, e1, lk, hcd⟩, kp⟩ := F
  subst e1
  have keeps : ∀ b o, base.get? b = some o → s.heap.get? b = some o := fun b o e => (e0.bs b o e).1
  have In := e0.mod.kin.keeps keeps
  have slots : ∀ y ∈ [(p, u)], (defScope st).names.lookup y.1 = some .local ∨ ((defScope st).names.lookup y.1 = some .cell ∧ ((cellsFrom (s.heap.objs.size + 1) (defScope st).names []).lookup y.1).isSome = true) := fun y hy => by
    obtain rfl := List.mem_singleton.mp hy
    exact (S.par p (List.mem_singleton.mpr rfl)).imp id fun z => ⟨z, PySem.W.cellsFrom_some _ _ _ (.inl z)⟩
  refine codeAny_call_function room.depth (In _ _ lk) rfl S.co S.gen rfl (PySem.W.codeRec_of In hcd) (bt _ _ _ _ (wpAny_newFunctionEnv_cells S.kind slots fun env he t0 io => ?_))
  cases he
  refine ⟨(e0.mod.nolimit.keeps keeps).keeps io.toInCall.keep, codeAny_func ?_⟩
  obtain ⟨Z, ready⟩ := lf_start q
  have begun : Inv (cxOf CX0 P w K mg base N x (defScope st) f cdv A outer s H E0) [] (L2.start N [v]) H t0 := inv_start S room.hd e0 rfl (.cons rv .nil) io
  refine wpAny_mono ((hb cdv Z (room.deeper _)).nox.run [] t0 _ H _ begun ready) (fun fl t1 done => ?_) fun _ _ z => z
  have close : ∀ {τ : L2.St} {H1 : Hp} {x1 : V} {y1 : Value}, Inv (cxOf CX0 P w K mg base N x (defScope st) f cdv A outer s H E0) [] τ H1 t1 → RelV x1 y1 → Q x1 H1 → CE outer P w H s Q y1 t1 := fun {_ H1 x1 _} J a c => ⟨x1, H1, J.os, J.bare, J.base, J.hok, a, c⟩
  match fl, done with
  | .ret _, ⟨_, _, _, J, a, c⟩ => exact close J a c
  | .next, ⟨_, _, J, c⟩ => exact close (x1 := V.non) J rfl c
  | .brk, ⟨_, _, _, z⟩ => exact z.elim
  | .cont, ⟨_, _, _, z⟩ => exact z.elim
end
end Dl
namespace Dl
open PySem PySem.Spec PyProof.Rows L2
section
variable {P : Program} {w : World} {K : PySem.W.Frag} {mg mb : Str → Option Value}
/-- the script as the law finds it: the caller's own list, or one of the module's -/
theorem script_in {h : Heap} {a : Addr} {vs : List Value} {ns : List Int} (KX : K.In h) (ha : h.get? a = some { cls := .type "list", data := .seq vs.toArray }) (hi : IntsAre vs ns) (few : ns.length ≤ sizeLine) :
    ∃ H : Hp, HOk P w H h ∧ (∀ b u, H b = some u → b = a ∧ K.lookup a = none ∧ ∃ o u', u = .frz o u') ∧ ((Rd H a (.lst (ns.map V.int))) ∨ ∀ H', SqL K H' a (ns.map V.int)) := by
  have rv := vals_ints hi
  have len : vs.length = ns.length := hi.length
  cases look : K.lookup a with
  | some o =>
    have same := KX a o look
    rw [ha] at same
    cases same
    refine ⟨fun _ => none, fun _ _ z => (by cases z), fun _ _ z => (by cases z), .inr fun H' => .inr ⟨_, vs.toArray, 0, look, rfl, rfl, rfl, by rw [List.size_toArray, len]; exact few, by simpa using rv⟩⟩
  | none =>
    let H : Hp := fun b => if b = a then some (.frz { cls := .type "list", data := .seq vs.toArray } (.lst (ns.map V.int))) else none
    have at_a : H a = some (.frz { cls := .type "list", data := .seq vs.toArray } (.lst (ns.map V.int))) := if_pos rfl
    have only : ∀ b u, H b = some u → b = a := fun b u z => by
      by_cases q : b = a
      · exact q
      · have n : H b = none := if_neg q
        rw [n] at z; cases z
    refine ⟨H, fun b u z => ?_, fun b u z => ⟨only b u z, rfl, ?_⟩, .inl (.inr ⟨_, at_a⟩)⟩
    · obtain rfl := only b u z
      rw [at_a] at z
      cases z
      exact ⟨ha, by rw [List.length_map]; exact few, vs, 0, rv, ha⟩
    · obtain rfl := only b u z
      rw [at_a] at z
      cases z
      exact ⟨_, _, rfl⟩
/-- the law's def of data, called at the script, where it gives True -/
theorem law_here {x p : Str} {st : Stmt} {fa a : Addr} {fd : FuncData} {N : List Str} {k : Nat} {b : DS} {s₁ : Shared} {vs : List Value} {ns : List Int}
    (KX : K.In s₁.heap) (hns : s₁.heap.Ns mainGlobals mg) (hbl : s₁.heap.Ns builtinsNs mb) (hbb : ∀ y : Str, y ≠ "__name__" → mb y = bootBuiltins y) (hlim : s₁.heap.NoLimit) (hmo : ∃ mm, s₁.heap.Ns sysModules mm) (hg : s₁.gens = #[])
    (ha : s₁.heap.get? a = some { cls := .type "list", data := .seq vs.toArray }) (hi : IntsAre vs ns) (few : ns.length ≤ sizeLine) (room : Room (k + 1) callerA) (F : Fun K x x st fa fd) (S : FnScope N [p] (defScope st)) (bt : ∀ (s : Shared) (u : Value), BindsTo s fd ⟨[u], []⟩ [(p, u)])
    (body : ∀ (base : Heap) (cdv : Value) (s : Shared) (H : Hp) (Z : Par), Mod K mg base → Room k (callerA.deeper (envOfC x (defScope st) s.heap.objs.size fa cdv)) → CG (cxOf CX0 P w K mg base N x (defScope st) fa cdv callerA [] s H E0).nox →
      PSs (cxOf CX0 P w K mg base N x (defScope st) fa cdv callerA [] s H E0).nox (defBody st) (lfS K Z b))
    (true_ : fnP N 1 b [.dict [(.none, .list (ns.map .int))]] = some (.bool true)) :
    codeAny (model P w) callerA (.call (.ref fa) ⟨[.ref a], []⟩) (fun r s' => r = .ok (.ret (.bool true)) ∧ OldK s₁.heap s'.heap ∧ s'.os = s₁.os ∧ AllBare s'.gens) s₁ := by
  obtain ⟨H, hok, hH, here⟩ := script_in (P := P) (w := w) KX ha hi few
  have dict_free : ∀ {c : Addr} {o : Obj} {es : Array DictEntry} {n : Nat}, s₁.heap.get? c = some o → o.data = .dict es n → H c = none := fun {c o es n} e d => by
    cases z : H c with
    | none => rfl
    | some u =>
      obtain ⟨rfl, _⟩ := hH c u z
      rw [ha] at e
      cases e
      exact absurd (show Data.seq vs.toArray 0 = Data.dict es n from d) (by simp)
  have ns_in : ∀ {c : Addr} {m : Str → Option Value}, s₁.heap.Ns c m → (hidT s₁.heap H).Ns c m := fun ⟨o, es, n, e, d, r⟩ => ⟨o, es, n, hidT_get e (dict_free e d), d, r⟩
  have mod : Mod K mg (hidT s₁.heap H) := {
    kin := fun c o e => hidT_get (KX c o e) (by
      cases z : H c with
      | none => rfl
      | some u =>
        obtain ⟨rfl, q, _⟩ := hH c u z
        rw [q] at e; cases e)
    glob := ns_in hns
    blt := ⟨mb, ns_in hbl, hbb⟩
    nolimit := let ⟨mc, q1, q2⟩ := hlim; ⟨mc, ns_in q1, q2⟩ }
  have e0 : Env0 P w K mg (hidT s₁.heap H) callerA [] s₁ H := ⟨rfl, mod, fun _ _ e => of_hidT e, by rw [hidT_size]; exact Nat.le_refl _, trivial, fun c hc => (by cases hc), hok, .of_eq hg⟩
  have sys : ∃ o es n, (hidT s₁.heap H).get? sysModules = some o ∧ o.data = .dict es n := by
    obtain ⟨mm, o, es, n, e, d, _⟩ := hmo
    exact ⟨o, es, n, hidT_get e (dict_free e d), d⟩
  have t : Dt K (fun _ => False) H (.ref a) (.dict [(.none, .list (ns.map .int))]) := .scr (here.imp (fun z => ⟨z, fun z => z⟩) id) (dtAll_ints ns)
  refine codeAny_mono (run_here (v := .ref a) (Q := fun v _ => v = .bl true) F S room e0 (bt s₁ (.ref a)) rfl (fun cdv Z r => body _ cdv s₁ H Z mod r ⟨rfl, by show 4 + 3 + 100 < 9900; omega, sys⟩)
    ⟨fun _ => False, _, _, fun _ z => z.elim, .cons t .nil, true_, fun v H' _ tv => tv.bool⟩) fun r s' done => ?_
  match r, done with
  | .ok (.ret u), ⟨v, H', os, bare, un, ok', rv, q⟩ =>
    subst q
    obtain rfl : u = .bool true := rv
    refine ⟨rfl, OldK.of_keep fun c o e => ?_, os, bare⟩
    cases z : H c with
    | none => exact un.keep c o e z (by simp [frs]) (by simp)
    | some u =>
      obtain ⟨rfl, _, o', u', rfl⟩ := hH c u z
      have stay := (ok' c _ (un.frzs c o' u' z)).1
      have was := (hok c _ z).1
      rw [was] at e
      cases e
      exact stay
  | .ok .next, z => exact z.elim
  | .ok .brk, z => exact z.elim
  | .ok .cont, z => exact z.elim
  | .error e, z => exact (show False from z).elim
end
end Dl

/-! ### a law's head: what the top has written, by names -/
namespace Dl
open PySem PySem.Spec PyProof.Rows L2
mutual
/-- the value u of the module reads as the tree d -/
def rdB (K : PySem.W.Frag) : PyData → Value → Bool
  | .none, .none => true
  | .bool b, .bool c => decide (b = c)
  | .int i, .int j _ => decide (i = j)
  | .str x, .str y _ => decide (x = y)
  | .tuple ds, .ref a => match K.lookup a with
    | some ⟨.type t, _, .seq its _, _⟩ => decide (t = "tuple") && (decide (its.size ≤ sizeLine) && (keyless ds && rdBs K ds its.toList))
    | _ => false
  | _, _ => false
def rdBs (K : PySem.W.Frag) : List PyData → List Value → Bool
  | [], [] => true
  | d :: ds, u :: us => rdB K d u && rdBs K ds us
  | _, _ => false
end
mutual
theorem rdB_ok {K : PySem.W.Frag} : ∀ {d : PyData} {u : Value}, rdB K d u = true → ∃ v, RelV v u ∧ ∀ mu H, Dt K mu H v d
  | .none, u, h => by
    cases u <;> first | exact ⟨.non, rfl, fun _ _ => .non⟩ | (simp [rdB] at h)
  | .bool b, u, h => by
    cases u <;> first | (have e : b = _ := of_decide_eq_true h; subst e; exact ⟨.bl _, rfl, fun _ _ => .bl _⟩) | (simp [rdB] at h)
  | .int i, u, h => by
    cases u <;> first | (have e : i = _ := of_decide_eq_true h; subst e; exact ⟨.int _, ⟨_, rfl⟩, fun _ _ => .int _⟩) | (simp [rdB] at h)
  | .str x, u, h => by
    cases u <;> first | (have e : x = _ := of_decide_eq_true h; subst e; exact ⟨.str _, ⟨_, rfl⟩, fun _ _ => .str _⟩) | (simp [rdB] at h)
  | .tuple ds, u, h => by
    cases u with
    | ref a =>
      unfold rdB at h
      split at h
      · rename_i t od its n sl look
        simp only [Bool.and_eq_true, decide_eq_true_eq] at h
        obtain ⟨e, few, kl, h⟩ := h
        subst e
        obtain ⟨vs, r, t⟩ := rdBs_ok h
        exact ⟨.ref a, rfl, fun mu H => .tupK (fun H' => .inr ⟨_, its, n, look, rfl, rfl, few, r⟩) kl (t mu H)⟩
      · cases h
    | _ => simp [rdB] at h
  | .list ds, u, h => by cases u <;> simp [rdB] at h
  | .dict ds, u, h => by cases u <;> simp [rdB] at h
theorem rdBs_ok {K : PySem.W.Frag} : ∀ {ds : List PyData} {us : List Value}, rdBs K ds us = true → ∃ vs, Vals vs us ∧ ∀ mu H, DtAll K mu H vs ds
  | [], us, h => by
    cases us with
    | nil => exact ⟨[], .nil, fun _ _ => .nil⟩
    | cons => simp [rdBs] at h
  | d :: ds, us, h => by
    cases us with
    | nil => simp [rdBs] at h
    | cons u us =>
      simp only [rdBs, Bool.and_eq_true] at h
      obtain ⟨v, r1, t1⟩ := rdB_ok h.1
      obtain ⟨vs, r2, t2⟩ := rdBs_ok h.2
      exact ⟨v :: vs, .cons r1 r2, fun mu H => .cons (t1 mu H) (t2 mu H)⟩
end
def gcB (K : PySem.W.Frag) (c : Str × PyData) : Bool := match PySem.W.nsIn K mainGlobals c.1 with
  | some (some u) => rdB K c.2 u
  | _ => false
theorem gc_ok {K : PySem.W.Frag} {h : Heap} {mg : Str → Option Value} (X : K.In h) (G : h.Ns mainGlobals mg) {x : Str} {d : PyData} (c : gcB K (x, d) = true) : GC K mg x d := by
  unfold gcB at c
  split at c
  · rename_i u e
    obtain ⟨v, r, t⟩ := rdB_ok c
    exact ⟨u, v, PySem.W.mg_of X G e, r, t⟩
  · cases c
/-! ### the head's facts: built-ins' names free, defs, constants -/
def dOf (x : Str) (st : Stmt) : He.DefD := ⟨(x, none), x, x, defArgs st, defBody st, defScope st, [], []⟩
def obsM (n : Nat) (fa : List He.Fa) (fn : List He.DefD) (cs : List (Str × PyData)) (g : Addr → Option Obj) : Bool × He.AlD :=
  (cs.all (gcB (He.frG g (He.asD g n))), He.obsDG n fa fn g)
def hookM (n : Nat) (fa : List He.Fa) (fn : List He.DefD) (cs : List (Str × PyData)) : PySem.W.Hook where
  α := Bool × He.AlD
  obs := fun s => obsM n fa fn cs s.heap.get?
  val := fun _ => (true, He.valD fn)
  says := fun _ h => ∃ K : PySem.W.Frag, K.In h ∧ He.SaysD fa fn K ∧ cs.all (gcB K) = true
  of := fun _ _ e => ⟨_, He.frG_in, congrArg Prod.snd e, congrArg Prod.fst e⟩
  keeps := fun _ _ _ ⟨K, X, c⟩ k => ⟨K, PySem.W.Frag.In.keeps X k, c⟩
theorem obsM_eq {n : Nat} {fa : List He.Fa} {fn : List He.DefD} {cs : List (Str × PyData)} {g : Addr → Option Obj} {s : Shared} (h : ∀ a, g a = s.heap.get? a) : obsM n fa fn cs g = (hookM n fa fn cs).obs s := by
  obtain rfl : g = s.heap.get? := funext h
  rfl
section
variable {K : PySem.W.Frag} {h : Heap} {mg : Str → Option Value} {fa : List He.Fa} {fn : List He.DefD} {cs : List (Str × PyData)}
theorem const_of (X : K.In h) (G : h.Ns mainGlobals mg) (c : cs.all (gcB K) = true) (i : Nat) {x : Str} {d : PyData} (at_ : cs[i]? = some (x, d) := by rfl) : GC K mg x d :=
  gc_ok X G (List.all_eq_true.mp c _ (List.mem_of_getElem? at_))
theorem free_of (X : K.In h) (G : h.Ns mainGlobals mg) (c : He.SaysD fa fn K) (i : Nat) {x : Str} (at_ : fa[i]? = some (.free x) := by rfl) : mg x = none := He.free_ok X G (c.fact i at_)
theorem std_of (X : K.In h) (G : h.Ns mainGlobals mg) (c : He.SaysD fa fn K) (i j : Nat) {x : Str} {st : Stmt} {ps : List Str} (at_ : fn[i]? = some (dOf x st)) (gl : fa[j]? = some (.glo x))
    (bind : ∀ (kV doc pm : Value) (an : Option Addr) (cdv ct : Value) (us : List Value), us.length = ps.length → bindArgs (PySem.W.fnOf x x (defArgs st) (defBody st) (defScope st) .none kV doc pm an cdv ct) ⟨us, []⟩ = pure (ps.zip us)) : Std K mg x st ps := by
  obtain ⟨fd, F⟩ := c.def_ i at_
  have F' : Fun K x x st (He.ga K x) fd := He5.fun_of F
  exact ⟨_, fd, F', He.glo_ok X G (c.fact j gl), F'.binds bind⟩
end
/-- the law walked: what is asked of the program is that its meaning at each script is True -/
theorem walk_data {l : PySem.W.OpenLaw} {n k : Nat} {q : Program} {loose : List Str} {XP : (Str → Option Value) → Heap → Prop} {d : DefRec} {fa : List He.Fa} {fn : List He.DefD} {cs : List (Str × PyData)} {m : Nat} {x p : Str} {st : Stmt} {N : List Str} {b : DS}
    (most : l.most = some n) (few : n ≤ sizeLine) (hdf : d.params.defaults = []) (name : d.name = x) (alone : importsNone q = true) (room : Room (k + 1) callerA) (S : FnScope N [p] (defScope st))
    (F : ∀ (w : World) (mg : Str → Option Value) (h : Heap) (K : PySem.W.Frag), K.In h → h.Ns mainGlobals mg → He.SaysD fa fn K → cs.all (gcB K) = true → ∃ (f : Addr) (fd : FuncData), mg x = some (.ref f) ∧ Fun K x x st f fd ∧ (∀ (s : Shared) (u : Value), BindsTo s fd ⟨[u], []⟩ [(p, u)]) ∧
      ∀ (base : Heap) (cdv : Value) (s : Shared) (H : Hp) (Z : Par), Mod K mg base → Room k (callerA.deeper (envOfC x (defScope st) s.heap.objs.size f cdv)) → CG (cxOf CX0 l.prog w K mg base N x (defScope st) f cdv callerA [] s H E0).nox →
        PSs (cxOf CX0 l.prog w K mg base N x (defScope st) f cdv callerA [] s H E0).nox (defBody st) (lfS K Z b))
    (T : ∀ ns : List Int, ns.length ≤ n → fnP N 1 b [.dict [(.none, .list (ns.map .int))]] = some (.bool true)) :
    PySem.W.WalkO q loose XP (hookM m fa fn cs).says l.row.toRowW d [] (fun f vs => PySem.call f vs) := by
  refine Att.attach_call most hdf fun w s₀ s₁ mg mb f o pm cd doc a vs ns G Y _ _ _ hmg hobj hints hlen hg => ?_
  obtain ⟨K, X, c1, c2⟩ := Y
  obtain ⟨f', fd, e, Fn, bt, body⟩ := F w mg _ K X G.T.g c1 c2
  rw [name] at hmg
  cases e.symm.trans hmg
  obtain ⟨mm, sees, _⟩ := (G.T.seer alone).mods
  exact law_here X G.T.g G.T.b G.T.builtins G.T.nolimit ⟨mm, sees⟩ hg hobj hints (Nat.le_trans hlen few) room Fn S bt body (T ns hlen)
end Dl

/-! ### what a meaning gives: rules from the outside in -/
namespace Dl
open PySem PySem.Spec PyProof.Rows L2
structure Gd {α : Type} (o : Option α) (Q : α → Prop) : Prop where
  ex : ∃ a, o = some a ∧ Q a
structure Ge {α : Type} (o : Option (α × Sl)) (Q : α → Sl → Prop) : Prop where
  ex : ∃ a s, o = some (a, s) ∧ Q a s
structure Gs (o : Option Fl) (N : Sl → Prop) (R : PyData → Sl → Prop) : Prop where
  ex : (∃ s, o = some (.nx s) ∧ N s) ∨ ∃ d s, o = some (.rt d s) ∧ R d s
section
variable {α β : Type} {Q : PyData → Sl → Prop} {QA : List PyData → Sl → Prop} {QT : Bool → Sl → Prop} {N : Sl → Prop} {R : PyData → Sl → Prop} {s : Sl} {i j : Nat} {d : PyData} {fa fb fc : DE} {ga gb : DA} {ff : DF} {t t' : DT} {f g : DS} {D : PyData → Prop}
theorem gd {o : Option α} {a : α} {q : α → Prop} (e : o = some a) (h : q a) : Gd o q := ⟨a, e, h⟩
theorem gd_mono {o : Option α} {q r : α → Prop} (h : Gd o q) (k : ∀ a, q a → r a) : Gd o r := by
  obtain ⟨a, e, h⟩ := h
  exact ⟨a, e, k a h⟩
theorem ge_mono {o : Option (α × Sl)} {q r : α → Sl → Prop} (h : Ge o q) (k : ∀ a s, q a s → r a s) : Ge o r := by
  obtain ⟨a, s, e, h⟩ := h
  exact ⟨a, s, e, k a s h⟩
theorem gs_mono {o : Option Fl} {N' : Sl → Prop} {R' : PyData → Sl → Prop} (h : Gs o N R) (k : ∀ s, N s → N' s) (l : ∀ d s, R d s → R' d s) : Gs o N' R' := by
  obtain ⟨⟨s, e, h⟩ | ⟨d, s, e, h⟩⟩ := h
  · exact ⟨.inl ⟨s, e, k s h⟩⟩
  · exact ⟨.inr ⟨d, s, e, l d s h⟩⟩
theorem e_var (h : s[i]? = some (.dat d)) (k : Q d s) : Ge (dVar i s) Q := ⟨d, s, by unfold dVar; rw [h], k⟩
theorem e_c (k : Q d s) : Ge (dC d s) Q := ⟨d, s, rfl, k⟩
theorem e_op {g : PyData → PyData → Option PyData} (h : Ge (fa s) fun a s1 => Ge (fb s1) fun b s2 => Gd (g a b) fun d => Q d s2) : Ge (dOp g fa fb s) Q := by
  obtain ⟨a, s1, e1, b, s2, e2, d, e3, k⟩ := h
  exact ⟨d, s2, by unfold dOp; rw [e1, Option.bind_some, e2, Option.bind_some, e3]; rfl, k⟩
theorem e_un {g : PyData → Option PyData} (h : Ge (fa s) fun a s1 => Gd (g a) fun d => Q d s1) : Ge (dUn g fa s) Q := by
  obtain ⟨a, s1, e1, d, e3, k⟩ := h
  exact ⟨d, s1, by unfold dUn; rw [e1, Option.bind_some, e3]; rfl, k⟩
theorem e_chain {g g' : PyData → PyData → Option PyData} (h : Ge (fa s) fun a s1 => Ge (fb s1) fun b s2 => Gd (g a b) fun c => (c = .bool true ∧ Ge (fc s2) fun w s3 => Gd (g' b w) fun d => Q d s3) ∨ (c = .bool false ∧ Q (.bool false) s2)) : Ge (dChain g g' fa fb fc s) Q := by
  obtain ⟨a, s1, e1, b, s2, e2, c, e3, ⟨rfl, w, s3, e4, d, e5, k⟩ | ⟨rfl, k⟩⟩ := h
  · exact ⟨d, s3, by unfold dChain; rw [e1, Option.bind_some, e2, Option.bind_some, e3, Option.bind_some]; simp only [e4, Option.bind_some, e5, Option.map_some], k⟩
  · exact ⟨_, s2, by unfold dChain; rw [e1, Option.bind_some, e2, Option.bind_some, e3, Option.bind_some], k⟩
theorem e_l (h : Ge (ff s) fun ds s1 => Q (.list ds) s1) : Ge (dL ff s) Q := by
  obtain ⟨ds, s1, e, k⟩ := h
  exact ⟨_, s1, by unfold dL; rw [e]; rfl, k⟩
theorem e_b {g : List PyData → Option PyData} (h : Ge (ga s) fun ds s1 => Gd (g ds) fun d => Q d s1) : Ge (dB g ga s) Q := by
  obtain ⟨ds, s1, e, d, e2, k⟩ := h
  exact ⟨d, s1, by unfold dB; rw [e, Option.bind_some, e2]; rfl, k⟩
theorem e_tup (h : Ge (ga s) fun ds s1 => ds.length ≤ sizeLine ∧ Q (.tuple ds) s1) : Ge (dTup ga s) Q := by
  obtain ⟨ds, s1, e, l, k⟩ := h
  exact ⟨_, s1, by unfold dTup; rw [e, Option.bind_some, if_pos l], k⟩
theorem e_call {m : List PyData → Option PyData} (h : Ge (ga s) fun ds s1 => Gd (m ds) fun d => Q d s1) : Ge (dCall m ga s) Q := by
  obtain ⟨ds, s1, e, d, e2, k⟩ := h
  exact ⟨d, s1, by unfold dCall; rw [e, Option.bind_some, e2]; rfl, k⟩
theorem e_callM {m : List PyData → List PyData → Option (PyData × List PyData)} {p0 : List PyData} (c : contents s i = some p0) (h : Ge (ga s) fun ds s1 => ∃ pd, contents s1 i = some pd ∧ Gd (m pd ds) fun q => Q q.1 (setC s1 i q.2)) : Ge (dCallM m i ga s) Q := by
  obtain ⟨ds, s1, e, pd, e2, q, e3, k⟩ := h
  exact ⟨_, _, by unfold dCallM; rw [c, Option.bind_some, e, Option.bind_some, e2, Option.bind_some, e3]; rfl, k⟩
theorem e_ixc {p0 : List PyData} (c : contents s i = some p0) (h : Ge (fa s) fun k s1 => ∃ (n : Int) (ds : List PyData), k = .int n ∧ contents s1 i = some ds ∧ Gd (atI ds n) fun d => Q d s1) : Ge (dIxC i fa s) Q := by
  obtain ⟨k, s1, e, n, ds, rfl, e2, d, e3, q⟩ := h
  exact ⟨d, s1, by unfold dIxC; rw [c, Option.bind_some, e, Option.bind_some, e2, Option.bind_some]; simp only [e3, Option.map_some], q⟩
theorem e_and (h : Ge (fa s) fun a s1 => ∃ b, a = .bool b ∧ ((b = true ∧ Ge (fb s1) Q) ∨ (b = false ∧ Q (.bool false) s1))) : Ge (dAnd fa fb s) Q := by
  obtain ⟨a, s1, e, b, rfl, ⟨rfl, d, s2, e2, k⟩ | ⟨rfl, k⟩⟩ := h
  · exact ⟨d, s2, by unfold dAnd dTst; rw [e]; simp only [Option.bind_some, if_true, e2], k⟩
  · exact ⟨_, s1, by unfold dAnd dTst; rw [e]; simp, k⟩
theorem e_or (h : Ge (fa s) fun a s1 => ∃ b, a = .bool b ∧ ((b = true ∧ Q (.bool true) s1) ∨ (b = false ∧ Ge (fb s1) Q))) : Ge (dOr fa fb s) Q := by
  obtain ⟨a, s1, e, b, rfl, ⟨rfl, k⟩ | ⟨rfl, d, s2, e2, k⟩⟩ := h
  · exact ⟨_, s1, by unfold dOr dTst; rw [e]; simp, k⟩
  · exact ⟨d, s2, by unfold dOr dTst; rw [e]; simp [e2], k⟩
theorem e_not (h : Ge (fa s) fun a s1 => ∃ b, a = .bool b ∧ Q (.bool (!b)) s1) : Ge (dNot fa s) Q := by
  obtain ⟨a, s1, e, b, rfl, k⟩ := h
  exact ⟨_, s1, by unfold dNot dTst; rw [e]; rfl, k⟩
theorem e_if (h : Ge (t s) fun b s1 => (b = true ∧ Ge (fa s1) Q) ∨ (b = false ∧ Ge (fb s1) Q)) : Ge (dIf t fa fb s) Q := by
  obtain ⟨b, s1, e, ⟨rfl, d, s2, e2, k⟩ | ⟨rfl, d, s2, e2, k⟩⟩ := h
  · exact ⟨d, s2, by unfold dIf; rw [e]; simp [e2], k⟩
  · exact ⟨d, s2, by unfold dIf; rw [e]; simp [e2], k⟩
theorem e_sl {lo hi : DO} (h : Ge (fa s) fun a s1 => Ge (lo s1) fun l s2 => Ge (hi s2) fun r s3 => Gd (gSl a l r) fun d => Q d s3) : Ge (dSl fa lo hi s) Q := by
  obtain ⟨a, s1, e1, l, s2, e2, r, s3, e3, d, e4, k⟩ := h
  exact ⟨d, s3, by unfold dSl; rw [e1, Option.bind_some, e2, Option.bind_some, e3, Option.bind_some, e4]; rfl, k⟩
theorem o_n {q : Option Int → Sl → Prop} (k : q none s) : Ge (oN s) q := ⟨none, s, rfl, k⟩
theorem o_s {q : Option Int → Sl → Prop} (h : Ge (fa s) fun a s1 => ∃ n : Int, a = .int n ∧ q (some n) s1) : Ge (oS fa s) q := by
  obtain ⟨a, s1, e, n, rfl, k⟩ := h
  exact ⟨some n, s1, by unfold oS; rw [e]; rfl, k⟩
theorem a_nil (k : QA [] s) : Ge (aNil s) QA := ⟨[], s, rfl, k⟩
theorem a_cons (h : Ge (fa s) fun a s1 => Ge (ga s1) fun r s2 => QA (a :: r) s2) : Ge (aCons fa ga s) QA := by
  obtain ⟨a, s1, e1, r, s2, e2, k⟩ := h
  exact ⟨_, s2, by unfold aCons; rw [e1, Option.bind_some, e2]; rfl, k⟩
theorem f_lst (h : Ge (ga s) fun ds s1 => ds.length ≤ sizeLine ∧ QA ds s1) : Ge (fLst ga s) QA := by
  obtain ⟨ds, s1, e, l, k⟩ := h
  exact ⟨ds, s1, by unfold fLst; rw [e, Option.bind_some, if_pos l], k⟩
theorem f_call {m : List PyData → Option (List PyData)} (h : Ge (ga s) fun ds s1 => Gd (m ds) fun d => QA d s1) : Ge (fCall m ga s) QA := by
  obtain ⟨ds, s1, e, d, e2, k⟩ := h
  exact ⟨d, s1, by unfold fCall; rw [e, Option.bind_some, e2]; rfl, k⟩
theorem f_itA (h : Ge (fa s) fun a s1 => (∃ ds, (a = .list ds ∨ a = .tuple ds) ∧ QA ds s1) ∨ ∃ x, a = .str x ∧ QA (signs x) s1) : Ge (itA fa s) QA := by
  obtain ⟨a, s1, e, ⟨ds, rfl | rfl, k⟩ | ⟨x, rfl, k⟩⟩ := h
  · exact ⟨ds, s1, by unfold itA; rw [e]; rfl, k⟩
  · exact ⟨ds, s1, by unfold itA; rw [e]; rfl, k⟩
  · exact ⟨_, s1, by unfold itA; rw [e]; rfl, k⟩
theorem f_r1 (h : Ge (fa s) fun a s1 => ∃ n : Int, a = .int n ∧ 0 ≤ n ∧ n < 2 ^ 62 ∧ QA (rng 0 n) s1) : Ge (itR1 fa s) QA := by
  obtain ⟨a, s1, e, n, rfl, l1, l2, k⟩ := h
  exact ⟨_, s1, by unfold itR1; rw [e, Option.bind_some]; simp only; rw [if_pos ⟨by omega, l2⟩], k⟩
theorem t_tst (h : Ge (fa s) fun a s1 => ∃ b, a = .bool b ∧ QT b s1) : Ge (dTst fa s) QT := by
  obtain ⟨a, s1, e, b, rfl, k⟩ := h
  exact ⟨b, s1, by unfold dTst; rw [e]; rfl, k⟩
theorem t_and (h : Ge (t s) fun b s1 => (b = true ∧ Ge (t' s1) QT) ∨ (b = false ∧ QT false s1)) : Ge (dAndT t t' s) QT := by
  obtain ⟨b, s1, e, ⟨rfl, b', s2, e2, k⟩ | ⟨rfl, k⟩⟩ := h
  · exact ⟨b', s2, by unfold dAndT; rw [e]; simp [e2], k⟩
  · exact ⟨_, s1, by unfold dAndT; rw [e]; simp, k⟩
theorem t_or (h : Ge (t s) fun b s1 => (b = true ∧ QT true s1) ∨ (b = false ∧ Ge (t' s1) QT)) : Ge (dOrT t t' s) QT := by
  obtain ⟨b, s1, e, ⟨rfl, k⟩ | ⟨rfl, b', s2, e2, k⟩⟩ := h
  · exact ⟨_, s1, by unfold dOrT; rw [e]; simp, k⟩
  · exact ⟨b', s2, by unfold dOrT; rw [e]; simp [e2], k⟩
theorem t_not (h : Ge (t s) fun b s1 => QT (!b) s1) : Ge (dNotT t s) QT := by
  obtain ⟨b, s1, e, k⟩ := h
  exact ⟨_, s1, by unfold dNotT; rw [e]; rfl, k⟩
theorem t_yes (k : QT true s) : Ge (tYesD s) QT := ⟨true, s, rfl, k⟩
theorem s_seq (h : Gs (f s) (fun s1 => Gs (g s1) N R) R) : Gs (sSeq f g s) N R := by
  obtain ⟨⟨s1, e, h⟩ | ⟨d, s1, e, h⟩⟩ := h
  · obtain ⟨⟨s2, e2, h⟩ | ⟨d, s2, e2, h⟩⟩ := h
    · exact ⟨.inl ⟨s2, by unfold sSeq; rw [e]; exact e2, h⟩⟩
    · exact ⟨.inr ⟨d, s2, by unfold sSeq; rw [e]; exact e2, h⟩⟩
  · exact ⟨.inr ⟨d, s1, by unfold sSeq; rw [e]; rfl, h⟩⟩
theorem s_nil (k : N s) : Gs (sNil s) N R := ⟨.inl ⟨s, rfl, k⟩⟩
theorem s_set (h : Ge (fa s) fun d s1 => N (s1.set i (.dat d))) : Gs (sSet i fa s) N R := by
  obtain ⟨d, s1, e, k⟩ := h
  exact ⟨.inl ⟨_, by unfold sSet; rw [e]; rfl, k⟩⟩
theorem s_own (h : Ge (ff s) fun d s1 => i < s1.length ∧ N (s1.set i (.own d))) : Gs (sOwn i ff s) N R := by
  obtain ⟨d, s1, e, l, k⟩ := h
  exact ⟨.inl ⟨_, by unfold sOwn; rw [e, Option.bind_some, if_pos l], k⟩⟩
theorem s_ret (h : Ge (fa s) fun d s1 => R d s1) : Gs (sRet fa s) N R := by
  obtain ⟨d, s1, e, k⟩ := h
  exact ⟨.inr ⟨d, s1, by unfold sRet; rw [e]; rfl, k⟩⟩
theorem s_if (h : Ge (t s) fun b s1 => (b = true ∧ Gs (f s1) N R) ∨ (b = false ∧ Gs (g s1) N R)) : Gs (sIf t f g s) N R := by
  obtain ⟨b, s1, e, ⟨rfl, h⟩ | ⟨rfl, h⟩⟩ := h
  · have q : sIf t f g s = f s1 := by unfold sIf; rw [e]; simp
    rw [q]; exact h
  · have q : sIf t f g s = g s1 := by unfold sIf; rw [e]; simp
    rw [q]; exact h
theorem s_frz {ds : List PyData} (h : s[i]? = some (.own ds)) (k : N (s.set i (.dat (.list ds)))) : Gs (sFrz i s) N R := ⟨.inl ⟨_, by unfold sFrz; rw [h], k⟩⟩
theorem s_app {p0 : List PyData} (c : contents s i = some p0) (h : Ge (fa s) fun d s1 => ∃ ds, contents s1 i = some ds ∧ ds.length < sizeLine ∧ N (setC s1 i (ds ++ [d]))) : Gs (sApp i fa s) N R := by
  obtain ⟨d, s1, e, ds, e2, l, k⟩ := h
  exact ⟨.inl ⟨_, by unfold sApp; rw [c, Option.bind_some, e, Option.bind_some, e2, Option.bind_some, if_pos l], k⟩⟩
theorem s_setIx (h : Ge (fa s) fun d s1 => ∃ p0, contents s1 i = some p0 ∧ Ge (fb s1) fun k s2 => ∃ (n : Int) (ds : List PyData), k = .int n ∧ contents s2 i = some ds ∧ Gd (ixN ds.length n) fun j => N (setC s2 i (ds.set j d))) : Gs (sSetIx i fa fb s) N R := by
  obtain ⟨d, s1, e, p0, e2, k, s2, e3, n, ds, rfl, e4, j, e5, q⟩ := h
  exact ⟨.inl ⟨_, by unfold sSetIx; rw [e, Option.bind_some, e2, Option.bind_some, e3, Option.bind_some, e4, Option.bind_some]; simp only [e5, Option.map_some], q⟩⟩
theorem s_asg {gdt : PyData → Sl → Option Sl} (h : Ge (fa s) fun d s1 => Gd (gdt d s1) N) : Gs (sAsg fa gdt s) N R := by
  obtain ⟨d, s1, e, s2, e2, k⟩ := h
  exact ⟨.inl ⟨s2, by unfold sAsg; rw [e, Option.bind_some, e2]; rfl, k⟩⟩
theorem s_par (h : Ge (fa s) fun a s1 => Ge (fb s1) fun b s2 => N ((s2.set i (.dat a)).set j (.dat b))) : Gs (sPar i j fa fb s) N R := by
  obtain ⟨a, s1, e1, b, s2, e2, k⟩ := h
  exact ⟨.inl ⟨_, by unfold sPar; rw [e1, Option.bind_some, e2]; rfl, k⟩⟩
/-- a loop by an invariant over what is left -/
theorem s_for {gdt : PyData → Sl → Option Sl} (I : List PyData → Sl → Prop) (h : Ge (ff s) fun ds s1 => I ds s1) (turn : ∀ d r s1, I (d :: r) s1 → ∃ s2, gdt d s1 = some s2 ∧ Gs (f s2) (fun s3 => I r s3) R) (done : ∀ s1, I [] s1 → N s1) : Gs (sFor ff gdt f s) N R := by
  obtain ⟨ds, s1, e, h⟩ := h
  have go : ∀ (ds : List PyData) (s1 : Sl), I ds s1 → Gs (runFor gdt f ds s1) N R := fun ds => by
    induction ds with
    | nil => intro s1 h; exact ⟨.inl ⟨s1, rfl, done s1 h⟩⟩
    | cons d r ih =>
      intro s1 h
      obtain ⟨s2, e2, b⟩ := turn d r s1 h
      obtain ⟨⟨s3, e3, h3⟩ | ⟨d3, s3, e3, h3⟩⟩ := b
      · have q : runFor gdt f (d :: r) s1 = runFor gdt f r s3 := by
          rw [runFor, e2, Option.bind_some, e3, Option.bind_some]
        rw [q]; exact ih s3 h3
      · exact ⟨.inr ⟨d3, s3, by rw [runFor, e2, Option.bind_some, e3, Option.bind_some], h3⟩⟩
  have q : sFor ff gdt f s = runFor gdt f ds s1 := by unfold sFor; rw [e]; rfl
  rw [q]
  exact go ds s1 h
/-- a comprehension by an invariant over what is left and what is made -/
theorem f_lc (I : List PyData → List PyData → Sl → Prop) (h : Ge (ff s) fun ds s1 => isNo s1[j]? = true ∧ ds.length < sizeLine ∧ I ds [] s1)
    (turn : ∀ d r m s1, I (d :: r) m s1 → Ge (t (s1.set j (.dat d))) fun b s2 => notOwn s2[j]? = true ∧ ((b = true ∧ Ge (fa s2) fun x s3 => notOwn s3[j]? = true ∧ I r (m ++ [x]) s3) ∨ (b = false ∧ I r m s2)))
    (done : ∀ m s1, I [] m s1 → QA m (s1.set j .no)) : Ge (fLc ff j t fa s) QA := by
  obtain ⟨ds, s1, e, n, l, h⟩ := h
  have go : ∀ (ds m : List PyData) (s1 : Sl), I ds m s1 → ∃ xs s2, lcRun j t fa ds s1 = some (xs, s2) ∧ QA (m ++ xs) (s2.set j .no) := fun ds => by
    induction ds with
    | nil => intro m s1 h; exact ⟨[], s1, rfl, by rw [List.append_nil]; exact done m s1 h⟩
    | cons d r ih =>
      intro m s1 h
      obtain ⟨b, s2, e2, n2, ⟨rfl, x, s3, e3, n3, h3⟩ | ⟨rfl, h3⟩⟩ := turn d r m s1 h
      · obtain ⟨xs, s4, e4, h4⟩ := ih _ s3 h3
        exact ⟨x :: xs, s4, by rw [lcRun, e2, Option.bind_some]; simp only [n2, if_true, e3, Option.bind_some, n3, e4, Option.map_some], by simpa using h4⟩
      · obtain ⟨xs, s4, e4, h4⟩ := ih _ s2 h3
        exact ⟨xs, s4, by rw [lcRun, e2, Option.bind_some]; simp [n2, e4], h4⟩
  obtain ⟨xs, s2, e2, h2⟩ := go ds [] s1 h
  exact ⟨xs, s2.set j .no, by unfold fLc; rw [e, Option.bind_some, if_pos ⟨n, l⟩, e2]; rfl, h2⟩
/-- a comprehension whose parts change nothing -/
theorem f_lc_pure (T : PyData → Bool) (F : PyData → PyData) (h : Ge (ff s) fun ds s1 => isNo s1[j]? = true ∧ ds.length < sizeLine ∧ (∀ d ∈ ds, Ge (t (s1.set j (.dat d))) (fun b s2 => b = T d ∧ s2 = s1.set j (.dat d)) ∧
      (T d = true → Ge (fa (s1.set j (.dat d))) fun x s2 => x = F d ∧ s2 = s1.set j (.dat d))) ∧ QA ((ds.filter T).map F) s1) : Ge (fLc ff j t fa s) QA := by
  obtain ⟨ds, s1, e, n, l, turn, k⟩ := h
  have hn := isNo_eq n
  have hj : j < s1.length := by
    rcases Nat.lt_or_ge j s1.length with z | z
    · exact z
    · rw [List.getElem?_eq_none z] at hn; cases hn
  have same : s1.set j .no = s1 := by
    refine List.ext_getElem? fun i => ?_
    rw [List.getElem?_set]
    split
    · rename_i q
      subst q
      simp [hj]
      rw [List.getElem?_eq_getElem hj] at hn
      exact (Option.some.inj hn).symm
    · rfl
  refine f_lc (I := fun r m s' => ∃ pre, pre ++ r = ds ∧ m = (pre.filter T).map F ∧ ∀ v, s'.set j v = s1.set j v) ⟨ds, s1, e, n, l, [], rfl, rfl, fun _ => rfl⟩ (fun d r m s' hI => ?_) (fun m s' hI => ?_)
  · obtain ⟨pre, hp, rfl, hs⟩ := hI
    have mem : d ∈ ds := by rw [← hp]; simp
    obtain ⟨t1, t2⟩ := turn d mem
    rw [hs]
    have at_ : (s1.set j (.dat d))[j]? = some (.dat d) := by simp [hj]
    have back : ∀ v, (s1.set j (.dat d)).set j v = s1.set j v := fun v => by rw [List.set_set]
    refine ge_mono t1 fun b s2 q => ?_
    obtain ⟨rfl, rfl⟩ := q
    refine ⟨by rw [at_]; rfl, ?_⟩
    cases hT : T d with
    | true =>
      refine .inl ⟨rfl, ge_mono (t2 hT) fun x s3 q => ?_⟩
      obtain ⟨rfl, rfl⟩ := q
      exact ⟨by rw [at_]; rfl, pre ++ [d], by rw [← hp]; simp, by simp [List.filter_append, hT], back⟩
    | false => exact .inr ⟨rfl, pre ++ [d], by rw [← hp]; simp, by simp [List.filter_append, hT], back⟩
  · obtain ⟨pre, hp, rfl, hs⟩ := hI
    rw [List.append_nil] at hp
    subst hp
    rw [hs, same]
    exact k
/-! ### defs -/
theorem m_fnP {N : List Str} {n : Nat} {b : DS} {ds : List PyData} {q : PyData → Prop} (l : ds.length = n) (h : Gs (b (startS N ds)) (fun _ => q .none) fun d _ => q d) : Gd (fnP N n b ds) q := by
  obtain ⟨⟨s1, e, k⟩ | ⟨d, s1, e, k⟩⟩ := h
  · exact ⟨.none, by unfold fnP; rw [if_pos l, e]; rfl, k⟩
  · exact ⟨d, by unfold fnP; rw [if_pos l, e]; rfl, k⟩
theorem m_fnM {N : List Str} {n : Nat} {b : DS} {pd ds : List PyData} {q : PyData × List PyData → Prop} (l : ds.length + 1 = n)
    (h : Gs (b (startM N pd ds)) (fun s => ∃ pd', potOf s[0]? = some pd' ∧ q (.none, pd')) fun d s => ∃ pd', potOf s[0]? = some pd' ∧ q (d, pd')) : Gd (fnM N n b pd ds) q := by
  obtain ⟨⟨s1, e, pd', e2, k⟩ | ⟨d, s1, e, pd', e2, k⟩⟩ := h
  · exact ⟨_, by unfold fnM; rw [if_pos l, e]; simp only [outM, e2, Option.map_some], k⟩
  · exact ⟨_, by unfold fnM; rw [if_pos l, e]; simp only [outM, e2, Option.map_some], k⟩
theorem m_fnF {N : List Str} {n : Nat} {b : DF} {ds : List PyData} {q : List PyData → Prop} (l : ds.length = n) (h : Ge (b (startS N ds)) fun d _ => q d) : Gd (fnF N n b ds) q := by
  obtain ⟨d, s1, e, k⟩ := h
  exact ⟨d, by unfold fnF; rw [if_pos l, e]; rfl, k⟩
theorem r_seq {q : List PyData → Sl → Prop} (h : Gs (f s) (fun s1 => Ge (ff s1) q) fun _ _ => False) : Ge (rSeq f ff s) q := by
  obtain ⟨⟨s1, e, d, s2, e2, k⟩ | ⟨d, s1, e, k⟩⟩ := h
  · exact ⟨d, s2, by unfold rSeq; rw [e]; exact e2, k⟩
  · exact k.elim
theorem few_and {n : Nat} {p : Prop} (h : n ≤ 1000) (k : p) : n ≤ sizeLine ∧ p := ⟨Nat.le_trans h (by decide), k⟩
/-! ### numbers -/
theorem lg {x : Int} {k : Nat} (hk : 0 < k) (h0 : -(2 ^ k) < x) (h : x < 2 ^ k) : x.natAbs.log2 < k := by
  by_cases z : x.natAbs = 0
  · rw [z]; exact hk
  · refine (Nat.log2_lt z).mpr ?_
    have e : ((2 ^ k : Nat) : Int) = (2 : Int) ^ k := by simp
    omega
theorem two_pos (k : Nat) : (0 : Int) < 2 ^ k := Int.pow_pos (by decide)
theorem n_pow (k : Nat) {a : Int} {b : Nat} (ha : 0 ≤ a) (hl : a < 2 ^ k) (hk : 0 < k) (hb : k * b ≤ 2 ^ 20) (h : 0 ≤ a ^ b → D (.int (a ^ b))) : Gd (gPow (.int a) (.int b)) D := by
  have p := two_pos k
  have l : a.natAbs.log2 < k := lg hk (by omega) hl
  have c : (0 : Int) ≤ (b : Int) ∧ ((a.natAbs.log2 + 1 : Nat) : Int) * b ≤ 2 ^ 27 := by
    refine ⟨by omega, ?_⟩
    have e : (a.natAbs.log2 + 1) * b ≤ k * b := Nat.mul_le_mul_right _ l
    have e2 : (((a.natAbs.log2 + 1) * b : Nat) : Int) ≤ 2 ^ 20 := by
      have : ((2 ^ 20 : Nat) : Int) = 2 ^ 20 := by decide
      omega
    rw [Int.natCast_mul] at e2
    exact Int.le_trans e2 (by decide)
  refine gd (a := .int (a ^ b)) ?_ (h (Int.pow_nonneg ha))
  unfold gPow gInt
  simp only [c, and_self, if_true, Option.map_some, Int.toNat_natCast]
theorem n_add {a b : Int} (h : D (.int (a + b))) : Gd (gAdd (.int a) (.int b)) D := ⟨_, rfl, h⟩
theorem n_sub {a b : Int} (h : D (.int (a - b))) : Gd (gSub (.int a) (.int b)) D := ⟨_, rfl, h⟩
theorem n_mod {a b : Int} (l : 0 < b) (h : 0 ≤ a % b → a % b < b → D (.int (a % b))) : Gd (gMod (.int a) (.int b)) D := ⟨_, by unfold gMod gInt; simp only [l, if_true, Option.map_some], h (Int.emod_nonneg _ (by omega)) (Int.emod_lt_of_pos _ l)⟩
theorem n_div {a b : Int} (l : 0 < b) (u : b < 2 ^ 100) (h : D (.int (a / b))) : Gd (gDiv (.int a) (.int b)) D := by
  have c : 0 < b ∧ b.natAbs.log2 < 9000 := ⟨l, Nat.lt_of_lt_of_le (lg (by decide) (by have := two_pos 100; omega) u) (by decide)⟩
  exact ⟨_, by unfold gDiv gInt; simp only [c, and_self, if_true, Option.map_some], h⟩
theorem n_mul (k : Nat) {a b : Int} (ha : -(2 ^ k) < a) (ha' : a < 2 ^ k) (hb : -(2 ^ k) < b) (hb' : b < 2 ^ k) (hk : 0 < k) (few : k ≤ 400000) (h : D (.int (a * b))) : Gd (gMul (.int a) (.int b)) D := by
  have l1 := lg hk ha ha'
  have l2 := lg hk hb hb'
  have c : a.natAbs.log2 + b.natAbs.log2 < 1000000 := by omega
  exact ⟨_, by unfold gMul gInt; simp only [c, if_true, Option.map_some], h⟩
theorem n_gt {a b : Int} (h : D (.bool (decide (b < a)))) : Gd (gGt (.int a) (.int b)) D := ⟨_, rfl, h⟩
theorem n_ge {a b : Int} (h : D (.bool (decide (b ≤ a)))) : Gd (gGe (.int a) (.int b)) D := ⟨_, rfl, h⟩
theorem n_lt {a b : Int} (h : D (.bool (decide (a < b)))) : Gd (gLt (.int a) (.int b)) D := ⟨_, rfl, h⟩
theorem n_le {a b : Int} (h : D (.bool (decide (a ≤ b)))) : Gd (gLe (.int a) (.int b)) D := ⟨_, rfl, h⟩
end
end Dl

/-! ### while, a name forgotten, gcd, // by any divisor, the head by any check -/
namespace Dl
open PySem PySem.Spec PyProof.Rows L2
/-- while, n turns at most -/
def sWhile (t : DT) (b : DS) : Nat → DS
  | 0 => fun _ => none
  | n + 1 => fun s => (t s).bind fun p => if p.1 = true then (b p.2).bind fun fl => match fl with
      | .nx s' => sWhile t b n s'
      | .ct s' => sWhile t b n s'
      | .bk s' => some (.nx s')
      | .rt d s' => some (.rt d s')
    else some (.nx p.2)
/-- more turns than any loop here has -/
def bigF : Nat := 2 ^ 1000
/-- a name of which nothing is known from here on -/
def sFgt (j : Nat) : DS := fun s => if notOwn s[j]? = true then some (.nx (s.set j .no)) else none
section
variable {X : Cx} {Z : Par} {a b e : Expr} {es : List Expr} {pos : Pos} {fa fb fc : DE} {ff : DF} {ga : DA} {st : Stmt} {sts : List Stmt} {f g : DS} {t : DT}
theorem lift_while {K : PySem.W.Frag} {n : Nat} {D : Ends} {σ : L2.St} {H : Hp} (h : lfS K Z (sWhile t f n) D σ H) : tWhile (lfT K Z t) (lfS K Z f) D σ H := by
  obtain ⟨M, s, fl, rl, hf, k⟩ := h
  refine ⟨fun m σ' H' => ∃ M' s', Kq Z M H M' H' ∧ Rel K Z M' σ' H' s' ∧ sWhile t f m s' = some fl, ⟨n, M, s, Kq.refl _ _ _, rl, hf⟩, ?_⟩
  rintro m σ' H' ⟨M', s', k2, r2, h3⟩
  cases m with
  | zero => cases h3
  | succ m =>
    unfold sWhile at h3
    simp only [Option.bind_eq_some_iff] at h3
    obtain ⟨⟨b1, s1⟩, e1, h4⟩ := h3
    dsimp only at h4
    refine ⟨M', s', b1, s1, r2, e1, fun H1 k1 r1 => ?_⟩
    cases b1 with
    | true =>
      rw [if_pos rfl]
      rw [if_pos rfl] at h4
      simp only [Option.bind_eq_some_iff] at h4
      obtain ⟨fl1, e2, h5⟩ := h4
      refine ⟨fun σ3 H3 => ∃ M3 s3, Kq Z M H M3 H3 ∧ Rel K Z M3 σ3 H3 s3 ∧ sWhile t f m s3 = some fl, fun σ3 H3 q => ⟨m, Nat.lt_succ_self _, q⟩, ?_⟩
      refine ⟨M', s1, fl1, r1, e2, ?_⟩
      have kk : Kq Z M H M' H1 := k2.trans k1
      cases fl1 with
      | nx s4 => exact fun M4 σ4 H4 k4 r4 => ⟨M4, s4, kk.trans k4, r4, h5⟩
      | ct s4 => exact fun M4 σ4 H4 k4 r4 => ⟨M4, s4, kk.trans k4, r4, h5⟩
      | bk s4 => cases h5; exact fun M4 σ4 H4 k4 r4 => k M4 σ4 H4 (kk.trans k4) r4
      | rt d4 s4 => cases h5; exact fun M4 σ4 H4 v4 k4 r4 t4 => k M4 σ4 H4 v4 (kk.trans k4) r4 t4
    | false =>
      rw [if_neg Bool.false_ne_true]
      rw [if_neg Bool.false_ne_true] at h4
      cases h4
      exact k M' σ' H1 (k2.trans k1) r1
theorem swhile (n : Nat) {c : Expr} {body : List Stmt} (hp : PassesOwn (model X.prog X.w) X.A X.env X.xe) (hc : PT X c (lfT X.K Z t)) (hb : PSs X body (lfS X.K Z f)) : PS X (.While c body [] pos) (lfS X.K Z (sWhile t f n)) :=
  PSimp (ps_while hp hc hb) fun _ _ _ h => lift_while h
theorem sfgt {j : Nat} (h : PSs X sts (lfS X.K Z g)) : PSs X sts (lfS X.K Z (sSeq (sFgt j) g)) := PSsimp h fun D σ H h => by
  obtain ⟨M, s, fl, rl, h1, k⟩ := h
  unfold sSeq sFgt at h1
  simp only [Option.bind_eq_some_iff] at h1
  obtain ⟨fl1, h1, h2⟩ := h1
  split at h1
  · rename_i hn
    cases h1
    have q := rl.sl.forget (x := σ[j]?.join) j (notOwn_ne hn)
    have e : σ.set j (σ[j]?.join) = σ := by
      apply List.ext_getElem?
      intro i'
      by_cases e : i' = j
      · subst e
        by_cases hl : i' < σ.length
        · rw [List.getElem?_set_self hl, List.getElem?_eq_getElem hl]; rfl
        · rw [List.getElem?_eq_none (by simpa using hl), List.getElem?_eq_none (by simpa using hl)]
      · rw [List.getElem?_set_ne (Ne.symm e)]
    rw [e] at q
    exact ⟨M, _, fl, rl.withSl q, h2, k⟩
  · cases h1

/-! gcd -/
def gGcd : List PyData → Option PyData
  | [.int a, .int b] => some (.int ((Nat.gcd a.natAbs b.natAbs : Nat) : Int))
  | _ => none
theorem ok_gcd {K : PySem.W.Frag} : CallOk K rGcd gGcd := fun mu H xs ds d Q hm t e k => by
  unfold gGcd at e
  split at e
  · obtain ⟨x, y, rfl, t1, u⟩ := two_of t
    cases e
    exact ⟨_, _, by rw [t1.inti, u.inti], k _ H (fun _ _ z => z) (.int _)⟩
  · cases e
/-- a call of a built-in that a name of the module holds -/
theorem dcbf {x : Str} {p : Pos} {id : String} {r : List V → Hp → VK → Prop} {g : List PyData → Option PyData} (hc : CallR X (.builtin id) r) (ok : CallOk X.K r g) (hg : Gl X x) (hm : X.mg x = some (.builtin id)) (ha : PA X (e :: es) (lfA X.K Z ga))
    (hdb : (x == ("__debug__" : Str)) = false := by decide) (he : starEach (e :: es) X.env = (false, eval e X.env) :: starEach es X.env := by rfl) (hpl : (backTo pos (starEach es X.env)).any (·.1) = false := by rfl) : PE X (.Call (.Name x p) (e :: es) [] pos) (lft X.K Z (dB g ga)) :=
  PEimp (pe_callBfun hc hg hm ha hdb he hpl) fun _ _ _ h => lift_cb ok h

/-! // by any divisor but 0 -/
def CDivA (_ j : Int) : Prop := j ≠ 0 ∧ j.natAbs.log2 < 9000
theorem op_fdivA : OpR X (binaryOp .FloorDiv) (rI CDivA fun i j => .int (i.fdiv j)) := opI fun _ _ _ _ _ _ _ hc q => floordiv_int hc.1 q (.inl (PyProof.noPylong_of_log2 hc.2))
def gDivA : PyData → PyData → Option PyData := gInt fun a b => if b ≠ 0 ∧ b.natAbs.log2 < 9000 then some (a.fdiv b) else none
theorem ok_divA {K : PySem.W.Frag} : OpOk K (rI CDivA fun i j => .int (i.fdiv j)) gDivA := okI fun a b c h => by
  split at h
  · cases h; exact ⟨by assumption, rfl⟩
  · cases h
end
section
variable {N : Sl → Prop} {R : PyData → Sl → Prop} {s : Sl} {t : DT} {f g : DS} {D : PyData → Prop} {j : Nat}
theorem s_fgt (h : notOwn s[j]? = true) (k : N (s.set j .no)) : Gs (sFgt j s) N R := ⟨.inl ⟨_, by unfold sFgt; rw [if_pos h], k⟩⟩
/-- while by an invariant with its measure -/
theorem s_while {n : Nat} (I : Nat → Sl → Prop) (h : ∃ m, m < n ∧ I m s) (turn : ∀ m s, I m s → Ge (t s) fun b s1 => (b = true ∧ Gs (f s1) (fun s2 => ∃ m', m' < m ∧ I m' s2) R) ∨ (b = false ∧ N s1)) : Gs (sWhile t f n s) N R := by
  obtain ⟨m, hm, h⟩ := h
  induction n generalizing m s with
  | zero => omega
  | succ n ih =>
    obtain ⟨b, s1, e, ⟨rfl, q⟩ | ⟨rfl, q⟩⟩ := turn m s h
    · obtain ⟨⟨s2, e2, m', l, q⟩ | ⟨d, s2, e2, q⟩⟩ := q
      · have w : sWhile t f (n + 1) s = sWhile t f n s2 := by
          simp only [sWhile, e, Option.bind_some, if_true, e2]
        rw [w]
        exact ih m' (by omega) q
      · exact ⟨.inr ⟨d, s2, by simp only [sWhile, e, Option.bind_some, if_true, e2], q⟩⟩
    · exact ⟨.inl ⟨s1, by simp [sWhile, e], q⟩⟩
theorem n_divA {a b : Int} (l : 0 < b) (u : b < 2 ^ 200) (h : D (.int (a / b))) : Gd (gDivA (.int a) (.int b)) D := by
  have c : b ≠ 0 ∧ b.natAbs.log2 < 9000 := ⟨by omega, Nat.lt_of_lt_of_le (lg (by decide) (by have := two_pos 200; omega) u) (by decide)⟩
  refine ⟨_, ?_, h⟩
  unfold gDivA gInt
  simp only [c, and_self, ne_eq, not_false_eq_true, if_true, Option.map_some]
  rw [Int.fdiv_eq_ediv_of_nonneg a (by omega)]
theorem n_divN {a b : Int} (l : b ≠ 0) (u : b.natAbs < 2 ^ 200) (h : D (.int (a.fdiv b))) : Gd (gDivA (.int a) (.int b)) D := by
  have c : b ≠ 0 ∧ b.natAbs.log2 < 9000 := ⟨l, by
    by_cases z : b.natAbs = 0
    · rw [z]; decide
    · exact Nat.lt_of_lt_of_le ((Nat.log2_lt z).mpr u) (by decide)⟩
  refine ⟨_, ?_, h⟩
  unfold gDivA gInt
  simp only [c, and_self, ne_eq, not_false_eq_true, if_true, Option.map_some]
end

/-! ### the head by any check of it -/
def bnB (K : PySem.W.Frag) (c : Str × String) : Bool := He.eqO (PySem.W.nsIn K mainGlobals c.1) (some (some (.builtin c.2)))
def obsC (n : Nat) (fa : List He.Fa) (fn : List He.DefD) (ck : PySem.W.Frag → Bool) (g : Addr → Option Obj) : Bool × He.AlD :=
  (ck (He.frG g (He.asD g n)), He.obsDG n fa fn g)
def hookC (n : Nat) (fa : List He.Fa) (fn : List He.DefD) (ck : PySem.W.Frag → Bool) : PySem.W.Hook where
  α := Bool × He.AlD
  obs := fun s => obsC n fa fn ck s.heap.get?
  val := fun _ => (true, He.valD fn)
  says := fun _ h => ∃ K : PySem.W.Frag, K.In h ∧ He.SaysD fa fn K ∧ ck K = true
  of := fun _ _ e => ⟨_, He.frG_in, congrArg Prod.snd e, congrArg Prod.fst e⟩
  keeps := fun _ _ _ ⟨K, X, c⟩ k => ⟨K, PySem.W.Frag.In.keeps X k, c⟩
theorem obsC_eq {n : Nat} {fa : List He.Fa} {fn : List He.DefD} {ck : PySem.W.Frag → Bool} {g : Addr → Option Obj} {s : Shared} (h : ∀ a, g a = s.heap.get? a) : obsC n fa fn ck g = (hookC n fa fn ck).obs s := by
  obtain rfl : g = s.heap.get? := funext h
  rfl
section
variable {K : PySem.W.Frag} {h : Heap} {mg : Str → Option Value} {fa : List He.Fa} {fn : List He.DefD} {bs : List (Str × String)}
theorem bn_of (X : K.In h) (G : h.Ns mainGlobals mg) (c : bs.all (bnB K) = true) (i : Nat) {x : Str} {d : String} (at_ : bs[i]? = some (x, d) := by rfl) : mg x = some (.builtin d) :=
  PySem.W.mg_of X G (He.eqO_ok (List.all_eq_true.mp c _ (List.mem_of_getElem? at_)))
end
/-- the law walked: what is asked of the program is that its meaning at each script is True -/
theorem walk_dataC {l : PySem.W.OpenLaw} {n k : Nat} {q : Program} {loose : List Str} {XP : (Str → Option Value) → Heap → Prop} {d : DefRec} {fa : List He.Fa} {fn : List He.DefD} {ck : PySem.W.Frag → Bool} {m : Nat} {x p : Str} {st : Stmt} {N : List Str} {b : DS}
    (most : l.most = some n) (few : n ≤ sizeLine) (hdf : d.params.defaults = []) (name : d.name = x) (alone : importsNone q = true) (room : Room (k + 1) callerA) (S : FnScope N [p] (defScope st))
    (F : ∀ (w : World) (mg : Str → Option Value) (h : Heap) (K : PySem.W.Frag), K.In h → h.Ns mainGlobals mg → He.SaysD fa fn K → ck K = true → ∃ (f : Addr) (fd : FuncData), mg x = some (.ref f) ∧ Fun K x x st f fd ∧ (∀ (s : Shared) (u : Value), BindsTo s fd ⟨[u], []⟩ [(p, u)]) ∧
      ∀ (base : Heap) (cdv : Value) (s : Shared) (H : Hp) (Z : Par), Mod K mg base → Room k (callerA.deeper (envOfC x (defScope st) s.heap.objs.size f cdv)) → CG (cxOf CX0 l.prog w K mg base N x (defScope st) f cdv callerA [] s H E0).nox →
        PSs (cxOf CX0 l.prog w K mg base N x (defScope st) f cdv callerA [] s H E0).nox (defBody st) (lfS K Z b))
    (T : ∀ ns : List Int, ns.length ≤ n → fnP N 1 b [.dict [(.none, .list (ns.map .int))]] = some (.bool true)) :
    PySem.W.WalkO q loose XP (hookC m fa fn ck).says l.row.toRowW d [] (fun f vs => PySem.call f vs) := by
  refine Att.attach_call most hdf fun w s₀ s₁ mg mb f o pm cd doc a vs ns G Y _ _ _ hmg hobj hints hlen hg => ?_
  obtain ⟨K, X, c1, c2⟩ := Y
  obtain ⟨f', fd, e, Fn, bt, body⟩ := F w mg _ K X G.T.g c1 c2
  rw [name] at hmg
  cases e.symm.trans hmg
  obtain ⟨mm, sees, _⟩ := (G.T.seer alone).mods
  exact law_here X G.T.g G.T.b G.T.builtins G.T.nolimit ⟨mm, sees⟩ hg hobj hints (Nat.le_trans hlen few) room Fn S bt body (T ns hlen)
end Dl

/-! ### exceptions: what a body tells, or which class of exception leaves it -/
namespace Dl
open PySem PySem.Spec PyProof.Rows L2
inductive Rx (α : Type) where
  | ok (a : α) | ex (c : Str)
/-- .. with the names' state -/
inductive Ry (α : Type) where
  | ok (a : α) | ex (c : Str) (s : Sl)
abbrev DX := Sl → Option (Ry (PyData × Sl))
abbrev DTX := Sl → Option (Ry (Bool × Sl))
abbrev DAX := Sl → Option (Ry (List PyData × Sl))
inductive Fx where
  | fl (f : Fl) | ex (c : Str) (s : Sl)
abbrev DSx := Sl → Option Fx
/-- an exception of the class of that name is let out, the names being so -/
def ExAt (K : PySem.W.Frag) (mg : Str → Option Value) (Z : Par) (M : List Addr) (H : Hp) (W : WX) (c : Str) (s : Sl) : Prop :=
  ∀ (C : Addr) (M' : List Addr) (σ' : L2.St) (H' : Hp), mg c = some (.ref C) → Kq Z M H M' H' → Rel K Z M' σ' H' s → W (.ref C) none σ' H'
theorem ExAt.mono {K : PySem.W.Frag} {mg : Str → Option Value} {Z : Par} {M M1 : List Addr} {H H1 : Hp} {W : WX} {c : Str} {s : Sl} (k : Kq Z M H M1 H1) (h : ExAt K mg Z M H W c s) : ExAt K mg Z M1 H1 W c s := fun C M' σ' H' hm k1 r => h C M' σ' H' hm (k.trans k1) r
/-- .. out of an expression: the names are as they were -/
def ExE (K : PySem.W.Frag) (mg : Str → Option Value) (Z : Par) (M : List Addr) (σ : L2.St) (H : Hp) (W : WX) (c : Str) (s : Sl) : Prop :=
  ∀ (C : Addr) (H' : Hp), mg c = some (.ref C) → Kq Z M H M H' → Rel K Z M σ H' s → W (.ref C) none σ H'
theorem ExE.mono {K : PySem.W.Frag} {mg : Str → Option Value} {Z : Par} {M : List Addr} {σ : L2.St} {H H1 : Hp} {W : WX} {c : Str} {s : Sl} (k : Kq Z M H M H1) (h : ExE K mg Z M σ H W c s) : ExE K mg Z M σ H1 W c s := fun C H' hm k1 r => h C H' hm (k.trans k1) r
theorem ExAt.toE {K : PySem.W.Frag} {mg : Str → Option Value} {Z : Par} {M : List Addr} {σ : L2.St} {H : Hp} {W : WX} {c : Str} {s : Sl} (h : ExAt K mg Z M H W c s) : ExE K mg Z M σ H W c s := fun C H' hm k r => h C M σ H' hm k r
def lftx (K : PySem.W.Frag) (mg : Str → Option Value) (Z : Par) (W : WX) (f : DX) : TE := fun σ H Q => ∃ M s r, Rel K Z M σ H s ∧ f s = some r ∧ (match r with
  | .ok p => ∀ v H', Kq Z M H M H' → Rel K Z M σ H' p.2 → Dt K (Mu Z M) H' v p.1 → Q v H'
  | .ex c s' => ExE K mg Z M σ H W c s')
def lfTx (K : PySem.W.Frag) (mg : Str → Option Value) (Z : Par) (W : WX) (f : DTX) : TT := fun σ H Q => ∃ M s r, Rel K Z M σ H s ∧ f s = some r ∧ (match r with
  | .ok p => ∀ H', Kq Z M H M H' → Rel K Z M σ H' p.2 → Q p.1 H'
  | .ex c s' => ExE K mg Z M σ H W c s')
def lfAx (K : PySem.W.Frag) (mg : Str → Option Value) (Z : Par) (W : WX) (f : DAX) : TA := fun σ H Q => ∃ M s r, Rel K Z M σ H s ∧ f s = some r ∧ (match r with
  | .ok p => ∀ vs H', Kq Z M H M H' → Rel K Z M σ H' p.2 → DtAll K (Mu Z M) H' vs p.1 → Q vs H'
  | .ex c s' => ExE K mg Z M σ H W c s')
def FxOk (K : PySem.W.Frag) (mg : Str → Option Value) (Z : Par) (W : WX) (M : List Addr) (H : Hp) (D : Ends) : Fx → Prop
  | .fl fl => FlOk K Z M H D fl
  | .ex c s => ExAt K mg Z M H W c s
def lfSx (K : PySem.W.Frag) (mg : Str → Option Value) (Z : Par) (W : WX) (f : DSx) : TS := fun D σ H => ∃ M s r, Rel K Z M σ H s ∧ f s = some r ∧ FxOk K mg Z W M H D r
theorem fxOk_mono {K : PySem.W.Frag} {mg : Str → Option Value} {Z : Par} {W : WX} {m0 m1 : List Addr} {H0 H1 : Hp} {D : Ends} (k : Kq Z m0 H0 m1 H1) : ∀ {r : Fx}, FxOk K mg Z W m0 H0 D r → FxOk K mg Z W m1 H1 D r
  | .fl _, h => FlOk.mono k h
  | .ex _ _, h => ExAt.mono k h
def spX (K : PySem.W.Frag) (mg : Str → Option Value) (m : List PyData → Option (Rx PyData)) : Sp := fun vs H Q E => ∃ mu ds r, (∀ a, mu a → ∃ o, H a = some o) ∧ DtAll K mu H vs ds ∧ m ds = some r ∧ (match r with
  | .ok d => ∀ v H', (∀ a o, H a = some o → H' a = some o) → Dt K mu H' v d → Q v H'
  | .ex c => ∀ (C : Addr) (H' : Hp), mg c = some (.ref C) → (∀ a o, H a = some o → H' a = some o) → E (.ref C) none H')

/-! #### expressions -/
def xUp (f : DE) : DX := fun s => (f s).map .ok
def xCall (m : List PyData → Option (Rx PyData)) (g : DA) : DX := fun s => (g s).bind fun p => (m p.1).map fun r => match r with
  | .ok d => .ok (d, p.2)
  | .ex c => .ex c p.2
def xACons (f : DX) (g : DAX) : DAX := fun s => (f s).bind fun r => match r with
  | .ex c s' => some (.ex c s')
  | .ok p => (g p.2).map fun q => match q with
    | .ex c s' => .ex c s'
    | .ok q => .ok (p.1 :: q.1, q.2)
def xAUp (f : DA) : DAX := fun s => (f s).map .ok
def xTup (g : DAX) : DX := fun s => (g s).bind fun r => match r with
  | .ex c s' => some (.ex c s')
  | .ok p => if p.1.length ≤ sizeLine then some (.ok (.tuple p.1, p.2)) else none
def xTst (f : DX) : DTX := fun s => (f s).bind fun r => match r with
  | .ex c s' => some (.ex c s')
  | .ok (.bool b, s') => some (.ok (b, s'))
  | .ok _ => none
def xNotT (f : DTX) : DTX := fun s => (f s).map fun r => match r with
  | .ex c s' => .ex c s'
  | .ok p => .ok (!p.1, p.2)
/-- the call of a def that may raise, where it doesn't -/
def okOf (m : List PyData → Option (Rx PyData)) : List PyData → Option PyData := fun ds => match m ds with
  | some (.ok d) => some d
  | _ => none
section
variable {X : Cx} {Z : Par} {W : WX} {a b e : Expr} {es : List Expr} {pos : Pos} {fa fb : DE} {xa xb : DX} {ga : DA} {gx : DAX} {tx : DTX}
theorem xup (h : PE X e (lft X.K Z fa)) : PE X e (lftx X.K X.mg Z W (xUp fa)) := PEimp h fun σ H Q h => by
  obtain ⟨M, s, r, rl, hf, k⟩ := h
  unfold xUp at hf
  simp only [Option.map_eq_some_iff] at hf
  obtain ⟨⟨d, s1⟩, h1, rfl⟩ := hf
  exact ⟨M, s, d, s1, rl, h1, k⟩
theorem xaup (h : PA X es (lfA X.K Z ga)) : PA X es (lfAx X.K X.mg Z W (xAUp ga)) := PAimp h fun σ H Q h => by
  obtain ⟨M, s, r, rl, hf, k⟩ := h
  unfold xAUp at hf
  simp only [Option.map_eq_some_iff] at hf
  obtain ⟨⟨d, s1⟩, h1, rfl⟩ := hf
  exact ⟨M, s, d, s1, rl, h1, k⟩
theorem lift_xcall {K : PySem.W.Frag} {mg : Str → Option Value} {m : List PyData → Option (Rx PyData)} {σ : L2.St} {H : Hp} {Q : VK} (h : lftx K mg Z W (xCall m ga) σ H Q) : tCallS (spX K mg m) (WE W) (lfA K Z ga) σ H Q := by
  obtain ⟨M, s, r, rl, hf, k⟩ := h
  unfold xCall at hf
  simp only [Option.bind_eq_some_iff, Option.map_eq_some_iff] at hf
  obtain ⟨⟨ds, s1⟩, h1, r1, h2, h3⟩ := hf
  refine ⟨M, s, ds, _, rl, h1, fun vs H1 k1 rl1 t1 => ?_⟩
  show spX K mg m vs H1 Q (WE W σ)
  refine ⟨Mu Z M, ds, _, rl1.muT, t1, h2, ?_⟩
  cases r1 with
  | ok d =>
    cases h3
    exact fun v H2 g2 t2 => k v H2 (k1.trans (kq_grow g2)) (rl1.grow g2) t2
  | ex c =>
    cases h3
    exact fun C H' hm g => k C H' hm (k1.trans (kq_grow g)) (rl1.grow g)
def CalX (P : Program) (w : World) (K : PySem.W.Frag) (mg : Str → Option Value) (base : Heap) (k : Nat) (x : Str) (ps : List Str) (sp : Sp) : Prop := ∃ (f : Addr) (fd : FuncData), FnOk P w K mg base (L2.CX P w) k f fd ps sp ∧ mg x = some (.ref f) ∧ PySem.W.keepIn K (.ref f) = true ∧ Binds K fd ps []
theorem CalX.mono {P : Program} {w : World} {K : PySem.W.Frag} {mg : Str → Option Value} {base : Heap} {x : Str} {ps : List Str} {j k : Nat} {sp : Sp} (c : CalX P w K mg base j x ps sp) (h : j ≤ k) : CalX P w K mg base k x ps sp := by
  obtain ⟨f, fd, F, r⟩ := c
  exact ⟨f, fd, F.mono h, r⟩
theorem xcl {m : List PyData → Option (Rx PyData)} {j k : Nat} {x : Str} {ps : List Str} {p : Pos} (tk : Takes X W) (c : CalX X.prog X.w X.K X.mg X.base j x ps (spX X.K X.mg m)) (hr : Room k X.A) (hj : j ≤ k) (hg : Gl X x) (ha : PA X (e :: es) (lfA X.K Z ga))
    (hdb : (x == ("__debug__" : Str)) = false := by decide) (he : starEach (e :: es) X.env = (false, eval e X.env) :: starEach es X.env := by rfl) (hpl : (backTo pos (starEach es X.env)).any (·.1) = false := by rfl) :
    PE X (.Call (.Name x p) (e :: es) [] pos) (lftx X.K X.mg Z W (xCall m ga)) := by
  obtain ⟨f, fd, F, hm, hk, hb⟩ := c
  exact PEimp (pe_callS F (hr.mono hj) hg hm hk hb (fun σ => passAt tk σ) ha hdb he hpl) fun _ _ _ h => lift_xcall h
/-- called where it doesn't raise -/
theorem dclX {m : List PyData → Option (Rx PyData)} {j k : Nat} {x : Str} {ps : List Str} {p : Pos} (c : CalX X.prog X.w X.K X.mg X.base j x ps (spX X.K X.mg m)) (hr : Room k X.A) (hj : j ≤ k) (hg : Gl X x) (ha : PA X (e :: es) (lfA X.K Z ga))
    (hdb : (x == ("__debug__" : Str)) = false := by decide) (he : starEach (e :: es) X.env = (false, eval e X.env) :: starEach es X.env := by rfl) (hpl : (backTo pos (starEach es X.env)).any (·.1) = false := by rfl) :
    PE X (.Call (.Name x p) (e :: es) [] pos) (lft X.K Z (dCall (okOf m) ga)) := by
  obtain ⟨f, fd, F, hm, hk, hb⟩ := c
  refine PEimp (pe_call F (hr.mono hj) hg hm hk hb .nil (passL) ha hdb he hpl) fun σ H Q h => ?_
  obtain ⟨M, s, d, s', rl, hf, k⟩ := h
  unfold dCall okOf at hf
  simp only [Option.bind_eq_some_iff, Option.map_eq_some_iff] at hf
  obtain ⟨⟨ds, s1⟩, h1, d1, h2, h3⟩ := hf
  cases h3
  split at h2
  · rename_i d2 hm2
    cases h2
    refine ⟨M, s, ds, _, rl, h1, fun vs H1 k1 rl1 t1 => ?_⟩
    show spX X.K X.mg m (vs ++ []) H1 Q E0
    rw [List.append_nil]
    exact ⟨Mu Z M, ds, _, rl1.muT, t1, hm2, fun v H2 g2 t2 => k v H2 (k1.trans (kq_grow g2)) (rl1.grow g2) t2⟩
  · cases h2
theorem xac (ha : PE X e (lftx X.K X.mg Z W xa)) (hb : PA X es (lfAx X.K X.mg Z W gx)) (hs : starEach (e :: es) X.env = (false, eval e X.env) :: starEach es X.env := by rfl) : PA X (e :: es) (lfAx X.K X.mg Z W (xACons xa gx)) := PAimp (pa_cons ha hb hs) fun σ H Q h => by
  obtain ⟨M, s, r, rl, hf, k⟩ := h
  unfold xACons at hf
  simp only [Option.bind_eq_some_iff] at hf
  obtain ⟨r1, h1, h2⟩ := hf
  refine ⟨M, s, r1, rl, h1, ?_⟩
  cases r1 with
  | ex c s' => cases h2; exact k
  | ok p =>
    simp only [Option.map_eq_some_iff] at h2
    obtain ⟨r2, h2, h3⟩ := h2
    refine fun v H1 k1 rl1 t1 => ⟨M, p.2, r2, rl1, h2, ?_⟩
    cases r2 with
    | ex c s' => cases h3; exact ExE.mono k1 k
    | ok q => cases h3; exact fun vs H2 k2 rl2 t2 => k _ H2 (k1.trans k2) rl2 (.cons (t1.mono k2.kp) t2)
theorem xtup {x1} (h : PA X es (lfAx X.K X.mg Z W gx)) : PE X (.Tuple es x1 pos) (lftx X.K X.mg Z W (xTup gx)) := PEimp (pe_tup h) fun σ H Q h => by
  obtain ⟨M, s, r, rl, hf, k⟩ := h
  unfold xTup at hf
  simp only [Option.bind_eq_some_iff] at hf
  obtain ⟨r1, h1, h2⟩ := hf
  refine ⟨M, s, r1, rl, h1, ?_⟩
  cases r1 with
  | ex c s' => cases h2; exact k
  | ok p =>
    dsimp only at h2
    split at h2
    · rename_i hz
      cases h2
      exact fun vs H1 k1 rl1 t1 => ⟨by rw [t1.len]; exact hz, fun p hp => k _ _ (k1.trans (kq_grow (grow_new hp))) (rl1.grow (grow_new hp)) (dt_newT rl1.muT hp t1)⟩
    · cases h2
theorem xt (h : PE X e (lftx X.K X.mg Z W xa)) (he : ∀ whole, isTrue e X.env whole = (do let v ← whole; standAt e.pos; holding [v] (truthy v)) := by intro _; rfl) : PT X e (lfTx X.K X.mg Z W (xTst xa)) := PTimp (pt_val h he) fun σ H Q h => by
  obtain ⟨M, s, r, rl, hf, k⟩ := h
  unfold xTst at hf
  simp only [Option.bind_eq_some_iff] at hf
  obtain ⟨r1, h1, h2⟩ := hf
  refine ⟨M, s, r1, rl, h1, ?_⟩
  split at h2
  · cases h2; exact k
  · cases h2; exact fun v H1 k1 rl1 t1 => ⟨_, t1.bool, k H1 k1 rl1⟩
  · cases h2
theorem xtnot (h : PT X e (lfTx X.K X.mg Z W tx)) : PT X (.UnaryOp .Not e pos) (lfTx X.K X.mg Z W (xNotT tx)) := PTimp (pt_not h) fun σ H Q h => by
  obtain ⟨M, s, r, rl, hf, k⟩ := h
  unfold xNotT at hf
  simp only [Option.map_eq_some_iff] at hf
  obtain ⟨r1, h1, h2⟩ := hf
  refine ⟨M, s, r1, rl, h1, ?_⟩
  cases r1 with
  | ex c s' => cases h2; exact k
  | ok p => cases h2; exact fun H1 k1 rl1 => k H1 k1 rl1
end

/-! #### statements -/
def xsUp (f : DS) : DSx := fun s => (f s).map .fl
def xsSeq (f g : DSx) : DSx := fun s => (f s).bind fun r => match r with
  | .fl (.nx s') => g s'
  | r => some r
def xsIf (t : DT) (f g : DSx) : DSx := fun s => (t s).bind fun p => if p.1 = true then f p.2 else g p.2
def xsIfX (t : DTX) (f g : DSx) : DSx := fun s => (t s).bind fun r => match r with
  | .ex c s' => some (.ex c s')
  | .ok p => if p.1 = true then f p.2 else g p.2
def xsRet (f : DX) : DSx := fun s => (f s).map fun r => match r with
  | .ex c s' => .ex c s'
  | .ok p => .fl (.rt p.1 p.2)
def xsDrop (f : DX) : DSx := fun s => (f s).map fun r => match r with
  | .ex c s' => .ex c s'
  | .ok p => .fl (.nx p.2)
def xsSet (i : Nat) (f : DX) : DSx := fun s => (f s).map fun r => match r with
  | .ex c s' => .ex c s'
  | .ok p => .fl (.nx (p.2.set i (.dat p.1)))
def xsAsg (f : DX) (gd : PyData → Sl → Option Sl) : DSx := fun s => (f s).bind fun r => match r with
  | .ex c s' => some (.ex c s')
  | .ok p => (gd p.1 p.2).map fun s' => .fl (.nx s')
def xsRaise (c : Str) : DSx := fun s => some (.ex c s)
/-- an own class of exceptions, made with a text -/
structure ExcK (K : PySem.W.Frag) (mg : Str → Option Value) (c : Str) : Prop where
  at_ : ∃ C : Addr, mg c = some (.ref C) ∧ PySem.W.excIn K C [.type "ValueError", .type "Exception", .type "BaseException", .type "object"] "ValueError.__new__" = true ∧ PySem.W.keepIn K (.ref C) = true ∧ PySem.W.subIn K (.ref C) (.type "BaseException") = some true ∧ PySem.W.typeIn K (.ref C) = some (.type "type")
section
variable {X : Cx} {Z : Par} {W : WX} {a b e : Expr} {es : List Expr} {pos : Pos} {fa fb : DE} {xa xb : DX} {ga : DA} {gx : DAX} {tx : DTX} {t : DT} {st : Stmt} {sts : List Stmt} {f g : DSx} {fs : DS}
theorem xsup (h : PS X st (lfS X.K Z fs)) : PS X st (lfSx X.K X.mg Z W (xsUp fs)) := PSimp h fun D σ H h => by
  obtain ⟨M, s, r, rl, hf, k⟩ := h
  unfold xsUp at hf
  simp only [Option.map_eq_some_iff] at hf
  obtain ⟨fl, h1, rfl⟩ := hf
  exact ⟨M, s, fl, rl, h1, k⟩
theorem xssup (h : PSs X sts (lfS X.K Z fs)) : PSs X sts (lfSx X.K X.mg Z W (xsUp fs)) := PSsimp h fun D σ H h => by
  obtain ⟨M, s, r, rl, hf, k⟩ := h
  unfold xsUp at hf
  simp only [Option.map_eq_some_iff] at hf
  obtain ⟨fl, h1, rfl⟩ := hf
  exact ⟨M, s, fl, rl, h1, k⟩
theorem xscons (h1 : PS X st (lfSx X.K X.mg Z W f)) (h2 : PSs X sts (lfSx X.K X.mg Z W g)) : PSs X (st :: sts) (lfSx X.K X.mg Z W (xsSeq f g)) := PSsimp (pss_cons h1 h2) fun D σ H h => by
  obtain ⟨M, s, r, rl, hf, k⟩ := h
  unfold xsSeq at hf
  simp only [Option.bind_eq_some_iff] at hf
  obtain ⟨r1, h1, h2⟩ := hf
  refine ⟨M, s, r1, rl, h1, ?_⟩
  cases r1 with
  | ex c s' => cases h2; exact k
  | fl fl1 =>
    cases fl1 with
    | nx s1 =>
      refine fun M1 σ1 H1 k1 rl1 => ⟨M1, s1, r, rl1, h2, ?_⟩
      exact fxOk_mono k1 k
    | rt d s1 => cases h2; exact k
    | bk s1 => cases h2; exact k
    | ct s1 => cases h2; exact k
theorem xsone (h1 : PS X st (lfSx X.K X.mg Z W f)) : PSs X [st] (lfSx X.K X.mg Z W f) := pss_one h1
theorem xsnil : PSs X [] (lfSx X.K X.mg Z W (xsUp sNil)) := xssup snil
theorem xsfrz {i : Nat} (h : PSs X sts (lfSx X.K X.mg Z W g)) : PSs X sts (lfSx X.K X.mg Z W (xsSeq (xsUp (sFrz i)) g)) := PSsimp h fun D σ H h => by
  obtain ⟨M, s, r, rl, h1, k⟩ := h
  unfold xsSeq xsUp sFrz at h1
  simp only [Option.bind_eq_some_iff, Option.map_eq_some_iff] at h1
  obtain ⟨r1, ⟨fl1, h1, rfl⟩, h2⟩ := h1
  split at h1
  · rename_i ds hs
    cases h1
    obtain ⟨a, xs, M', g1, g2, g3, g4, g5, g6, g7⟩ := rl.sl.frz i hs
    have sub : ∀ b, Mu Z M' b → Mu Z M b := fun b hb => by
      rcases hb with hb | hb | hb
      · exact .inl hb
      · exact .inr (.inl hb)
      · exact .inr (.inr (g6 b hb))
    have na : ¬ Mu Z M' a := fun hb => by
      rcases hb with hb | hb | hb
      · exact (rl.fr a g4).2.2.1 hb
      · exact (rl.fr a g4).2.1 hb
      · exact g5 hb
    have kk : Kq Z M H M' H := fun c u e _ nn => ⟨e, fun z => nn (g6 c z)⟩
    refine ⟨M', _, r, ⟨rl.base, fun b hb => rl.fr b (g6 b hb), rl.mz, rl.pt, g7 _ sub na⟩, h2, ?_⟩
    exact fxOk_mono kk k
  · cases h1
theorem xsif {c : Expr} {xs ys : List Stmt} (hc : PT X c (lfT X.K Z t)) (ha : PSs X xs (lfSx X.K X.mg Z W f)) (hb : PSs X ys (lfSx X.K X.mg Z W g)) : PS X (.If c xs ys pos) (lfSx X.K X.mg Z W (xsIf t f g)) := PSimp (ps_if hc ha hb) fun D σ H h => by
  obtain ⟨M, s, r, rl, h1, k⟩ := h
  unfold xsIf at h1
  simp only [Option.bind_eq_some_iff] at h1
  obtain ⟨⟨c1, s1⟩, h1, h2⟩ := h1
  refine ⟨M, s, c1, s1, rl, h1, fun H1 k1 r1 => ?_⟩
  have k' := fxOk_mono k1 k
  cases c1 with
  | true => exact ⟨M, s1, r, r1, h2, k'⟩
  | false => exact ⟨M, s1, r, r1, h2, k'⟩
theorem xsifx {c : Expr} {xs ys : List Stmt} (hc : PT X c (lfTx X.K X.mg Z W tx)) (ha : PSs X xs (lfSx X.K X.mg Z W f)) (hb : PSs X ys (lfSx X.K X.mg Z W g)) : PS X (.If c xs ys pos) (lfSx X.K X.mg Z W (xsIfX tx f g)) := PSimp (ps_if hc ha hb) fun D σ H h => by
  obtain ⟨M, s, r, rl, h1, k⟩ := h
  unfold xsIfX at h1
  simp only [Option.bind_eq_some_iff] at h1
  obtain ⟨r1, h1, h2⟩ := h1
  refine ⟨M, s, r1, rl, h1, ?_⟩
  cases r1 with
  | ex c s' => cases h2; exact ExAt.toE k
  | ok p =>
    obtain ⟨c1, s1⟩ := p
    refine fun H1 k1 rl1 => ?_
    have k' := fxOk_mono k1 k
    cases c1 with
    | true => exact ⟨M, s1, r, rl1, h2, k'⟩
    | false => exact ⟨M, s1, r, rl1, h2, k'⟩
theorem xsret (he : PE X e (lftx X.K X.mg Z W xa)) : PS X (.Return (some e) pos) (lfSx X.K X.mg Z W (xsRet xa)) := PSimp (ps_ret he) fun D σ H h => by
  obtain ⟨M, s, r, rl, h1, k⟩ := h
  unfold xsRet at h1
  simp only [Option.map_eq_some_iff] at h1
  obtain ⟨r1, h1, h2⟩ := h1
  refine ⟨M, s, r1, rl, h1, ?_⟩
  cases r1 with
  | ex c s' => cases h2; exact ExAt.toE k
  | ok p => cases h2; exact fun v H1 k1 r1 t1 => k M σ H1 v k1 r1 t1
theorem xsdrop (he : PE X e (lftx X.K X.mg Z W xa)) (hs : swapsWith e none pos.line X.env = pure false := by rfl) : PS X (.Expr e pos) (lfSx X.K X.mg Z W (xsDrop xa)) := PSimp (ps_expr he hs) fun D σ H h => by
  obtain ⟨M, s, r, rl, h1, k⟩ := h
  unfold xsDrop at h1
  simp only [Option.map_eq_some_iff] at h1
  obtain ⟨r1, h1, h2⟩ := h1
  refine ⟨M, s, r1, rl, h1, ?_⟩
  cases r1 with
  | ex c s' => cases h2; exact ExAt.toE k
  | ok p => cases h2; exact fun v H1 k1 r1 t1 => k M σ H1 k1 r1
theorem xsset {i : Nat} {x : Str} {pos' : Pos} (hN : X.N.Nodup) (hi : X.N[i]? = some x) (hx : Loc X.env.scope x) (he : PE X e (lftx X.K X.mg Z W xa)) (hs : swapsWith e (some (.Name x pos')) pos.line X.env = pure false := by rfl)
    (hf : X.fn x = true ∨ X.env.scope.names.lookup x = some .local := by first | exact .inl rfl | exact .inr rfl | assumption) : PS X (.Assign [.Name x pos'] e pos) (lfSx X.K X.mg Z W (xsSet i xa)) := PSimp (ps_set hN hi hx he hs hf) fun D σ H h => by
  obtain ⟨M, s, r, rl, h1, k⟩ := h
  unfold xsSet at h1
  simp only [Option.map_eq_some_iff] at h1
  obtain ⟨r1, h1, h2⟩ := h1
  refine ⟨M, s, r1, rl, h1, ?_⟩
  cases r1 with
  | ex c s' => cases h2; exact ExAt.toE k
  | ok p =>
    cases h2
    refine fun v H1 k1 r1 t1 => ?_
    obtain ⟨M', _, r2, k2⟩ := r1.setDat t1 i
    exact k M' _ H1 (k1.trans k2) r2
theorem xsasg {tg : Expr} {g : TG} {gd : PyData → Sl → Option Sl} (he : PE X e (lftx X.K X.mg Z W xa)) (hg : PG X tg g) (hgd : TgOk X.K g gd) (hs : swapsWithSole [tg] e pos.line X.env = pure false := by rfl) (hw : swappedStores [tg] e X.env = pure none := by rfl)
    (h1 : (assignEach [tg] X.env).map (·.2) = [assign tg X.env] := by rfl) : PS X (.Assign [tg] e pos) (lfSx X.K X.mg Z W (xsAsg xa gd)) := PSimp (ps_asg he hg hs hw h1) fun D σ H h => by
  obtain ⟨M, s, r, rl, hf, k⟩ := h
  unfold xsAsg at hf
  simp only [Option.bind_eq_some_iff] at hf
  obtain ⟨r1, h1, h2⟩ := hf
  refine ⟨M, s, r1, rl, h1, ?_⟩
  cases r1 with
  | ex c s' => cases h2; exact ExAt.toE k
  | ok p =>
    simp only [Option.map_eq_some_iff] at h2
    obtain ⟨s2, h2, h3⟩ := h2
    cases h3
    exact fun v H1 k1 r1 t1 => hgd Z M σ H1 p.2 s2 v p.1 _ r1 t1 h2 fun M' σ' r2 k2 => k M' σ' H1 (k1.trans k2) r2
theorem xsraise {x m : Str} {j : Nat} {p p2 pos : Pos} {pos' : Pos} (c : ExcK X.K X.mg x) (hc : X.calm = true) (tk : Takes X W) (hg : Gl X x) (hdb : (x == ("__debug__" : Str)) = false := by decide) :
    PS X (.Raise (some (.Call (.Name x p) [.Constant (.str m) j p2] [] pos)) none pos') (lfSx X.K X.mg Z W (xsRaise x)) := by
  obtain ⟨C, hm, q1, q2, q3, q4⟩ := c.at_
  refine PSimp (ps_raise hc tk (pmk_own PySem.F.excBase_ValueError q1 hm q2 (raises_own q3 q4) hg hdb)) fun D σ H h => ?_
  obtain ⟨M, s, r, rl, hf, k⟩ := h
  cases hf
  exact k C M σ H hm (Kq.refl _ _ _) rl
end

/-! #### defs -/
def outX : Option Fx → Option (Rx PyData)
  | some (.fl (.rt d _)) => some (.ok d)
  | some (.fl (.nx _)) => some (.ok .none)
  | some (.ex c _) => some (.ex c)
  | _ => none
def fnX (N : List Str) (n : Nat) (b : DSx) : List PyData → Option (Rx PyData) := fun ds => if ds.length = n then outX (b (startS N ds)) else none
section
variable {P : Program} {w : World} {K : PySem.W.Frag} {mg : Str → Option Value} {base : Heap}
theorem okX {x qual : Str} {st : Stmt} {f : Addr} {fd : FuncData} {N ps : List Str} {k : Nat} {b : DSx} (F : Fun K x qual st f fd) (S : FnScope N ps (defScope st))
    (hb : ∀ (cdv : Value) (A : Around) (outer : List Env) (s : Shared) (H : Hp) (E : XK) (Z : Par), Room k (A.deeper (envOfC qual (defScope st) s.heap.objs.size f cdv)) → PSs (cxOf (L2.CX P w) P w K mg base N qual (defScope st) f cdv A outer s H E) (defBody st) (lfSx K mg Z (fun cls d _ H => E cls d H) b)) :
    FnOk P w K mg base (L2.CX P w) (k + 1) f fd ps (spX K mg (fnX N ps.length b)) := by
  refine F.okX S (fun vs H Q E h => ?_) (fun cdv A outer s H vs Q E hr h => ?_)
  · obtain ⟨mu, ds, d, h1, h2, h3, h4⟩ := h
    unfold fnX at h3
    split at h3
    · rename_i hl
      rw [h2.len]; exact hl
    · cases h3
  · obtain ⟨mu, ds, d, h1, h2, h3, h4⟩ := h
    unfold fnX at h3
    split at h3
    case isFalse => cases h3
    rename_i hl
    let Z : Par := ⟨H, none, mu⟩
    refine ⟨_, hb cdv A outer s H E Z hr, [], startS N ds, ?_⟩
    have muE : ∀ a, Mu Z [] a → mu a := fun a q => by
      rcases q with q | q | q
      · exact q
      · cases q
      · cases q
    have r : Rel K Z [] (start N vs) H (startS N ds) := by
      refine ⟨fun a o e _ => e, fun a ha => (by cases ha), h1, fun a ha => (by cases ha), ?_⟩
      unfold startS L2.start
      rw [h2.len]
      exact slAll_start _ (h2.mono fun a o e n => ⟨e, fun z => n (muE a z)⟩)
    unfold outX at h3
    split at h3
    · rename_i d1 s1 hq
      cases h3
      refine ⟨_, r, hq, fun M σ H1 v k1 r1 t1 => h4 v H1 (fun a o e => r1.base a o e (fun z => by cases z)) (t1.mono fun a o e n => ⟨e, fun z => n (.inl z)⟩)⟩
    · rename_i s1 hq
      cases h3
      refine ⟨_, r, hq, fun M σ H1 k1 r1 => h4 _ H1 (fun a o e => r1.base a o e (fun z => by cases z)) .non⟩
    · rename_i c s1 hq
      cases h3
      exact ⟨_, r, hq, fun C M σ H' hm k1 r1 => h4 C H' hm fun a o e => r1.base a o e fun z => by cases z⟩
    · cases h3
theorem calX {x : Str} {st : Stmt} {N ps : List Str} {k : Nat} {b : DSx} (F : Std K mg x st ps) (S : FnScope N ps (defScope st))
    (hb : ∀ (f : Addr) (cdv : Value) (A : Around) (outer : List Env) (s : Shared) (H : Hp) (E : XK) (Z : Par), Room k (A.deeper (envOfC x (defScope st) s.heap.objs.size f cdv)) → PSs (cxOf (L2.CX P w) P w K mg base N x (defScope st) f cdv A outer s H E) (defBody st) (lfSx K mg Z (fun cls d _ H => E cls d H) b)) :
    CalX P w K mg base (k + 1) x ps (spX K mg (fnX N ps.length b)) := by
  obtain ⟨f, fd, F, hm, hb2⟩ := F
  exact ⟨f, fd, okX F S (fun cdv A outer s H E Z hr => hb f cdv A outer s H E Z hr), hm, F.kp, hb2⟩
end
end Dl

/-! ### an exception caught and kept by a name -/
namespace Dl
open PySem PySem.Spec PyProof.Rows L2
section
variable {X : Cx} {pins : List (Addr × Obj)} {σ : L2.St} {H : Hp} {s : Shared} {a C : Addr}
theorem exZ_ok {P : Program} {w : World} {H : Hp} {h : Heap} {oe : Obj} {vs : Array Value} (e : h.get? a = some oe) (z : Zc (.ref C) none oe) (d : oe.data = .fields vs) : ObjOk P w H h a (ExZ C a) :=
  ⟨⟨oe, e, z, vs, d⟩, ⟨oe, e⟩, fun _ _ ⟨u, q, r⟩ k => ⟨u, k u q, r⟩⟩
/-- an object that came after the entry, not yet read, is read as an exception from here on -/
theorem Inv.notes (I : Inv X pins σ H s) {oe : Obj} {vs : Array Value} (e : s.heap.get? a = some oe) (z : Zc (.ref C) none oe) (d : oe.data = .fields vs) (hn : H a = none) (young : X.s_0.heap.get? a = none) (nl : a ≠ X.env.locals) (np : ∀ p ∈ X.pn ++ pins, p.1 ≠ a) : Inv X pins σ (upd H a (ExZ C a)) s := by
  have old : ∀ b o, X.s_0.heap.get? b = some o → b ≠ a := fun b o q w => by
    rw [w, young] at q
    cases q
  have stands : ∀ b u, H b = some u → upd H a (ExZ C a) b = some u := fun b u q => by
    rw [upd_ne (ne_of_none q hn)]
    exact q
  have ncell : ∀ x c, X.env.cells.lookup x = some c → c ≠ a := fun x c q w => by
    obtain ⟨v, o, h1, h2⟩ := I.cell x c q
    rw [w, e] at h1
    cases h1
    have h3 : oe.data = Data.cell v := h2
    rw [d] at h3
    cases h3
  exact {
    ok := I.ok
    os := I.os
    bare := I.bare
    base := {
      keep := I.base.keep
      slot := I.base.slot
      free := fun b o q n x => by
        rw [upd_ne (old b o q)]
        exact I.base.free b o q n x
      there := I.base.there
      tups := fun b xs q => stands _ _ (I.base.tups b xs q)
      frzs := fun b o u q => stands _ _ (I.base.frzs b o u q)
      tbls := fun b ps q => by
        obtain ⟨m, r⟩ := I.base.tbls b ps q
        exact ⟨m, stands _ _ r⟩ }
    loc := I.loc
    cell := I.cell
    free := by
      rw [upd_ne (fun w => nl w.symm)]
      exact I.free
    freeC := fun x c q => by
      rw [upd_ne (ncell x c q)]
      exact I.freeC x c q
    pin := fun p hp => by
      obtain ⟨h1, h2, h3⟩ := I.pin p hp
      exact ⟨h1, by rw [upd_ne (np p hp)]; exact h2, h3⟩
    hok := fun b u q => by
      by_cases hb : b = a
      · subst hb
        rw [upd_same] at q
        cases q
        exact exZ_ok e z d
      · rw [upd_ne hb] at q
        exact (I.hok b u q).stay (fun _ _ _ r => r) (fun c r => stands _ _ r) fun c xs r => stands _ _ r
    len := I.len }
end
/-- what is wished of an exception of a body whose clause keeps it: slot j has it, slot i is wiped -/
def wKeep (K : PySem.W.Frag) (c : Value) (i j n : Nat) (D : Ends) : WX := fun cls d σ H =>
  ∃ C : Addr, cls = .ref C ∧ d = none ∧ PySem.W.exmOne K (.ref C) c = some true ∧ (σ.length = n → ∀ a, H a = none → D.nx (((σ.set i (some (.ref a))).set j (some (.ref a))).set i none) (upd H a (ExZ C a)))
section
variable {X : Cx} {x n y : Str} {c : Value} {i j : Nat} {body : List Stmt} {np py pn pa pos pos' : Pos} {tb : WX → TS}
theorem ps_try_keep (hs : X.stack = X.env :: X.outer) (hf : X.env.frame = some X.env.locals) (hex : X.ex = []) (hN : X.N.Nodup) (hi : X.N[i]? = some n) (hln : X.env.kindOf n = some .local) (hj : X.N[j]? = some y) (hly : Loc X.env.scope y) (hc : Names X x c)
    (hb : ∀ (W : WX) (pn : List (Addr × Obj)) (xe : Value → Shared → Prop), Takes (X.tr pn xe) W → PassesOwn (model X.prog X.w) X.A X.env xe → PSs (X.tr pn xe) body (tb W))
    (hsu : ∀ (a : Addr) (oe : Obj) (pl : List (Addr × Obj)), PSs (X.suite a ((a, oe) :: pl)) [.Assign [.Name y py] (.Name n pn) pa] (fun D σ H => ∃ v, σ[i]? = some (some v) ∧ D.nx (σ.set j (some v)) H)) (hil : i < X.N.length) :
    PS X (.Try body [.ExceptHandler (some (.Name x np)) (some n) [.Assign [.Name y py] (.Name n pn) pa] pos'] [] [] pos) (fun D σ H => tb (wKeep X.K c i j X.N.length D) D σ H) := by
  refine ⟨fun pins s σ H D I h => ?_⟩
  have frames : X.A.frames = some (X.env :: X.outer) := I.ok.frames.trans (by rw [hs])
  have okX := I.ok
  have go := (hb (wKeep X.K c i j X.N.length D) (X.pn ++ pins) (fun ev t1 => wpAny (model X.prog X.w) X.A (noteFrame ev X.env) (fun _ t2 => wpAny (model X.prog X.w) X.A (setFlight ev none) (fun _ t3 =>
    wpAny (model X.prog X.w) X.A (handleBy ev X.env [.ExceptHandler (some (.Name x np)) (some n) [.Assign [.Name y py] (.Name n pn) pa] pos']) (SP X pins D) X.xe t3) X.xe t2) X.xe t1) (fun u t xx => ?_) PassesOwn.looking).run [] s σ H D (I.toTry _) h
  · refine wpAny_Try_except (wpAny_mono go (fun fl t done => ?_) fun _ _ z => z)
    cases fl with
    | next =>
      obtain ⟨σ1, H1, J, q⟩ := done
      exact wpAny_execs_nil ⟨σ1, H1, J.ofTry okX, q⟩
    | brk =>
      obtain ⟨σ1, H1, J, q⟩ := done
      exact ⟨σ1, H1, J.ofTry okX, q⟩
    | cont =>
      obtain ⟨σ1, H1, J, q⟩ := done
      exact ⟨σ1, H1, J.ofTry okX, q⟩
    | ret u =>
      obtain ⟨v, σ1, H1, J, r, q⟩ := done
      exact ⟨v, σ1, H1, J.ofTry okX, r, q⟩
  obtain ⟨a, B, tI, pl, σ1, H1, cls, dc, rfl, J0, inB, up, sky, na, os, bare, C, rfl, rfl, told, goal⟩ := xx
  have J : Inv X pins σ1 H1 tI := J0.ofTry okX
  have sky1 : Sky B (X.env :: X.outer) a (Zc (.ref C) none) X.env.locals t.heap := by rw [← hs]; exact sky
  show wpAny (model X.prog X.w) X.A (noteFrame (.ref a) X.env) _ _ _
  refine Sky.land Zc.steady frames hf sky1 fun h1 fly up1 => ?_
  have J1 : Inv X pins σ1 H1 { t with heap := h1 } := J.landed inB fly.1 (up.trans up1) os bare
  obtain ⟨o1, vs1, at1, z1, d1⟩ := fly.there
  have aFrame : a ∉ frs (X.env :: X.outer) := fun m => by
    obtain ⟨_, o2, at2, nof⟩ := fly.2.2.1.mem m
    rw [at1] at at2
    cases at2
    exact nof _ d1
  have aLoc : a ≠ X.env.locals := fun w => aFrame (List.mem_filterMap.mpr ⟨X.env, List.mem_cons_self, by rw [hf, w]⟩)
  have aFs : a ∉ X.fs := fun m => by
    obtain ⟨en, hen, q⟩ := List.mem_filterMap.mp m
    exact aFrame (List.mem_filterMap.mpr ⟨en, List.mem_cons_of_mem _ hen, q⟩)
  -- it wasn't there ahead
  have ahead : tI.heap.get? a = none := by
    cases q : tI.heap.get? a with
    | none => rfl
    | some o =>
      have w := inB a o q (by show a ∉ frs X.stack; rw [hs]; exact aFrame)
      rw [fly.2.1] at w
      cases w
  have young : X.s_0.heap.get? a = none := by
    cases q : X.s_0.heap.get? a with
    | none => rfl
    | some o =>
      obtain ⟨o', w⟩ := J.base.there a o q (by rw [hex]; exact List.not_mem_nil)
      rw [ahead] at w
      cases w
  have otherPins : ∀ p ∈ X.pn ++ pins, p.1 ≠ a := fun p hp w => by
    have q := (J.pin p hp).1
    rw [w, ahead] at q
    cases q
  refine wpAny_handleBy_cons (codeAny_handlers_test ?_) (by intro q; cases q)
  have ty : PySem.W.Looks (model X.prog X.w) h1 (typeOf (.ref a)) (.ref C) := fun _ _ _ _ k q => wpAny_typeOf_ref (k _ _ at1) (by rw [z1.1]; exact q)
  have matched := PySem.W.exm_one (M := model X.prog X.w) J1.kIn ty told
  have inSuite := J1.suite at1 d1 na aLoc aFs
  have named : ∀ {Q : Value → Shared → Prop} {F : Value → Shared → Prop}, Q c { t with heap := h1 } → wpAny (model X.prog X.w) (X.A.mark (some (.ref a))) (eval (.Name x np) X.env) Q F { t with heap := h1 } := fun {Q F} q => by
    obtain ⟨g1, g2, g3 | ⟨g3, g4, g5⟩⟩ := hc
    · exact ld_glob (X := X.suite a ((a, o1) :: (X.pn ++ pins))) inSuite g1 g3 q g2
    · exact ld_blt (X := X.suite a ((a, o1) :: (X.pn ++ pins))) inSuite g1 g3 g4 q g5 g2
  refine named (matched.here (codeAny_handlers_suite_as ?_))
  refine HandSPX.lands_againZ fly fun h2 fly2 up2 => ?_
  have J2 : Inv X pins σ1 H1 { t with heap := h2 } := J.landed inB fly2.1 ((up.trans up1).trans up2) os bare
  obtain ⟨o2, vs2, at2, z2, d2⟩ := fly2.there
  have inSuite2 := J2.suite at2 d2 na aLoc aFs
  refine store_ok (X := X.suite a ((a, o2) :: (X.pn ++ pins))) (v := .ref a) inSuite2 hN hi (.inl hln) rfl (fun t3 S3 => ?_) (.inr hln)
  have slot : (σ1.set i (some (V.ref a)))[i]? = some (some (.ref a)) := by
    rw [List.getElem?_set_self (by rw [J.len]; exact hil)]
  refine wpAny_mono ((hsu a o2 (X.pn ++ pins)).run [] t3 _ H1 { nx := fun σ' H' => σ' = (σ1.set i (some (V.ref a))).set j (some (.ref a)) ∧ H' = H1, rt := fun _ _ => False } S3 ⟨.ref a, slot, rfl, rfl⟩) (fun fl t4 done => ?_) fun _ _ z => z.elim
  cases fl with
  | next =>
    obtain ⟨σ4, H4, S4, e1, e2⟩ := done
    subst e1 e2
    obtain ⟨at4, _⟩ := S4.pin (a, o2) (List.mem_append_left _ List.mem_cons_self)
    have J4 : Inv X pins _ H4 t4 := S4.unsuite okX
    exact gone_ok (Dl.Inv.notes J4 at4 z2 d2 na young aLoc otherPins) hN hi hln fun t5 J5 => ⟨_, _, J5, goal J.len a na⟩
  | brk => obtain ⟨_, _, _, z⟩ := done; exact z.elim
  | cont => obtain ⟨_, _, _, z⟩ := done; exact z.elim
  | ret u => obtain ⟨_, _, _, _, _, z⟩ := done; exact z.elim
end
end Dl

/-! ### a lambda handed to a def that tells which exception came -/
namespace Dl
open PySem PySem.Spec PyProof.Rows L2
/-- the table at P, all of whose code objects bear the name q -/
def Tabl (H : Hp) (P : Addr) (q : Str) (old : Addr → Prop) : Prop := ∃ ps : Array Value, H P = some (.tbl ps) ∧ TriplesOk ps.toList ∧ ∀ (pos : Pos) (cv : Value), codeAmong pos ps.toList = some cv → ∃ c, cv = .ref c ∧ H c = some (LamX.CodeO c q) ∧ old c
section
variable {X : Cx} {pins : List (Addr × Obj)} {σ : L2.St} {H : Hp} {s : Shared}
/-- a lambda is made: nothing but the table and new objects changes -/
theorem lam_new {c P : Addr} {old : Addr → Prop} {ps0 : Arguments} {body : Expr} {scope : Scope} {pos : Pos} {F : Value → Shared → Prop} {Q : Value → Shared → Prop} (I : Inv X pins σ H s) (TB : LamX.TabB X.base X.mg c P) (hcode : X.env.code = .ref c)
    (tab : Tabl H P (X.env.qual ++ "<lambda>") old) (hdef : defaultsOf ps0 X.env = ([], [])) (hfree : ∀ y ∈ scope.names, y.2 = .free → ∃ c, X.env.cells.lookup y.1 = some c)
    (h : ∀ (f c' : Addr) (pm ctv : Value) (H1 : Hp) (s1 : Shared), Inv X pins σ H1 s1 → (∀ b o, b ≠ P → H b = some o → H1 b = some o) → Tabl H1 P (X.env.qual ++ "<lambda>") (fun c => old c ∨ H c = none) →
      s1.heap.get? f = some (PySem.W.kla_obj "<lambda>" (X.env.qual ++ "<lambda>") ps0 body scope (cloFrom X.env.cells scope.names []) pm c' ctv) → H1 f = none → f ∉ frs X.stack → H1 c' = some (LamX.CodeO c' (X.env.qual ++ "<lambda>")) → Q (.ref f) s1) :
    wpAny (model X.prog X.w) X.A (eval (.Lambda ps0 body scope pos) X.env) Q F s := by
  obtain ⟨ps, atP, tr, codes⟩ := tab
  have mods : s.heap.BuiltinsAt X.mg P := TB.bm.keeps I.bk
  have inHeap := I.hok P _ atP
  have outside : ∀ z, s.heap.objs.size ≤ z → z ∉ frs X.stack := fun z hz m => (List.mem_cons.mp (I.stkSub _ m)).elim (fun e => absurd I.lt (by rw [← e]; exact Nat.not_lt.mpr hz)) (I.nofs hz)
  refine PySem.W.kla_eval hdef ?_
  rcases found : codeAmong pos ps.toList with _ | cv
  · refine PySem.W.kla_makeFunction (closure_ok hfree) I.ok.glob (I.mod.glob.keeps I.bk) hcode (TB.code.keeps I.bk) inHeap tr found TB.gP mods fun c' ctv hp tk ext ge lt rec here => ?_
    obtain ⟨_, oc, us, u, e, g1, g2, g3⟩ := rec
    cases e
    have new : H c' = none := I.hok.fresh ge
    have J := LamX.inv_table (t' := tk) (more := #[rawInt pos.line, rawInt pos.col, .ref c']) (h' := hp.push (PySem.W.kla_obj "<lambda>" (X.env.qual ++ "<lambda>") ps0 body scope (cloFrom X.env.cells scope.names []) ((X.mg "__name__").getD .none) c' ctv)) I atP
      (fun b o nb e => Heap.get?_push_of_some _ (ext b o nb e)) (Heap.get?_push_of_some _ here) ge ⟨oc, us, u, Heap.get?_push_of_some _ g1, g2, g3⟩
    have stays : ∀ b o, b ≠ P → H b = some o → (upd (upd H P (.tbl (ps ++ #[rawInt pos.line, rawInt pos.col, .ref c']))) c' (LamX.CodeO c' (X.env.qual ++ "<lambda>"))) b = some o := fun b o nb e => by
      rw [upd_ne (ne_of_none e new), upd_ne nb]; exact e
    have two : (ps ++ #[rawInt pos.line, rawInt pos.col, .ref c']).toList = ps.toList ++ [rawInt pos.line, rawInt pos.col, .ref c'] := by simp
    have behind : s.heap.objs.size ≤ hp.objs.size := by omega
    refine h hp.objs.size c' ((X.mg "__name__").getD .none) ctv _ _ J stays ⟨ps ++ #[rawInt pos.line, rawInt pos.col, .ref c'], ?_, ?_, fun p2 cv hcv => ?_⟩ (Heap.get?_push_size _ rfl) ?_ (outside _ behind) upd_same
    · rw [upd_ne (ne_of_none atP new), upd_same]
    · rw [two]; exact TriplesOk_snoc _ _ _ _ tr
    · rw [two] at hcv
      rcases LamX.among_app _ tr hcv with z | z
      · obtain ⟨d, e1, e2, e3⟩ := codes p2 cv z
        refine ⟨d, e1, stays d _ (fun w => ?_) e2, .inl e3⟩
        rw [w, atP] at e2
        exact LamX.codeO_ne ps (Option.some.inj e2).symm
      · exact ⟨c', z, upd_same, .inr new⟩
    · rw [upd_ne (Nat.ne_of_gt lt), upd_ne (Nat.ne_of_gt (Nat.lt_of_lt_of_le (Heap.lt_size inHeap) behind))]
      exact I.hok.fresh behind
  · obtain ⟨c', e, co, ol⟩ := codes pos cv found
    subst e
    refine PySem.W.kla_makeFunctionHit (closure_ok hfree) I.ok.glob (I.mod.glob.keeps I.bk) hcode (TB.code.keeps I.bk) inHeap tr found mods fun ctv hp tk ext behind => ?_
    refine h hp.objs.size c' ((X.mg "__name__").getD .none) ctv H _ (I.kept (h' := hp.push (PySem.W.kla_obj "<lambda>" (X.env.qual ++ "<lambda>") ps0 body scope (cloFrom X.env.cells scope.names []) ((X.mg "__name__").getD .none) c' ctv)) (t' := tk) fun b o e => Heap.get?_push_of_some _ (ext b o e)) (fun _ _ _ e => e) ⟨ps, atP, tr, fun p2 cv z => ?_⟩ (Heap.get?_push_size _ rfl) (I.hok.fresh behind) (outside _ behind) co
    obtain ⟨d, e1, e2, e3⟩ := codes p2 cv z
    exact ⟨d, e1, e2, .inl e3⟩
def tWord (P : Addr) (q : Str) (TT : (XK → Hp → VK → Prop) → Hp → VK → Prop) (t : XK → TE) : TE := fun σ H Q => ∃ old : Addr → Prop, Tabl H P q old ∧ ∀ H1, (∀ b o, b ≠ P → H b = some o → H1 b = some o) → Tabl H1 P q (fun c => old c ∨ H c = none) → TT (fun E H' Q' => t E σ H' Q') H1 Q
/-- x(lambda: body) -/
theorem pe_word {TT : (XK → Hp → VK → Prop) → Hp → VK → Prop} {x a : Str} {g c P : Addr} {k : Nat} {pg : Arguments} {bg : List Stmt} {sg : Scope} {dV kV doc pm cdv ct oc : Value} {an od : Option Addr} {osl : Array (Option Value)} {Ng : List Str}
    {ps0 : Arguments} {body : Expr} {scope : Scope} {t : XK → TE} {p lpos pos : Pos} (hg : Gl X x) (hm : X.mg x = some (.ref g)) (hk : PySem.W.keepIn X.K (.ref g) = true)
    (lk : X.K.lookup g = some ⟨oc, od, .func (PySem.W.fnOf x x pg bg sg dV kV doc pm an cdv ct), osl⟩) (hcg : PySem.W.codeIn X.K cdv x = true) (hb : L2.Binds X.K (PySem.W.fnOf x x pg bg sg dV kV doc pm an cdv ct) [a] []) (Sg : FnScope Ng [a] sg) (hNg : Ng[0]? = some a) (hva : Vis sg a)
    (hG : LamX.GivesTo X Ng x sg g cdv bg a (X.env.qual ++ "<lambda>") TT)
    (TB : LamX.TabB X.base X.mg c P) (hcode : X.env.code = .ref c) (hr : Room (k + 2) X.A) (L : LamX.LamS X.env.scope scope) (hdef : defaultsOf ps0 X.env = ([], []))
    (hbind : ∀ (q : Str) (cl : List (Str × Addr)) (pm cv ctv : Value), bindArgs (PySem.W.kla_fn "<lambda>" q ps0 body scope cl pm cv ctv) ⟨[], []⟩ = pure [])
    (hbody : ∀ (A : Around) (outer : List Env) (s : Shared) (H : Hp) (E : XK) (f c' : Addr), Room k (A.deeper (LamX.lamEnv X scope s.heap.objs.size f c')) → PE (LamX.lamCx X A outer s H E scope f c') body (t E))
    (hdb : (x == ("__debug__" : Str)) = false := by decide) (hd : (a == ("__debug__" : Str)) = false := by decide) (hcd : (a == ("__classdict__" : Str)) = false := by decide) :
    PE X (.Call (.Name x p) [.Lambda ps0 body scope lpos] [] pos) (tWord P (X.env.qual ++ "<lambda>") TT t) := by
  refine ⟨fun pins s σ H Q I ⟨old, tab, goal⟩ => wpAny_Call_Name_kw (ld_glob I hg hm ?_ hdb)⟩
  refine PySem.W.callWith_K (h₀ := X.base) I.ok.mod.kin hk ?_ (by rfl) (by rfl)
  show wpAny _ _ (spliced ((false, eval (.Lambda ps0 body scope lpos) X.env) :: backTo pos (starEach [] X.env))) _ _ s
  refine Calls.spliced_cons (lam_new I TB hcode tab hdef (L.has I.ok) fun f c' pmv ctv H1 t1 J stays tab1 atF newF outF atC => Calls.spliced_nil ⟨J.kIn, ?_⟩)
  have ran : codeAny (model X.prog X.w) X.A (.call (.ref g) ⟨[.ref f], []⟩) (CR C8.CX0 X.stack X.prog X.w H1 t1 Q C8.E0) t1 := by
    refine LamX.run_ofS (N := Ng) (ps := [a]) (us := [.ref f]) (vs := [.ref f]) lk hcg Sg hr J.env0 (hb t1 [.ref f] J.kIn rfl) (.cons rfl .nil) rfl fun room => ?_
    obtain ⟨tt, run, ready⟩ := hG f c' t1 H1 Q (fun E H' Q' => t E σ H' Q') (fun W pn xe E p1 p2 tk hW => LamX.pe_act (i := 0) J L atF newF outF (hbind _ _ _ _ _) tk hW room (fun A outer s H r2 => hbody A outer s H E f c' r2) hNg hva hd hcd) atC (goal H1 stays tab1)
    exact ⟨tt, run.nox, ready⟩
  refine wpAny_call (codeAny_mono ran fun r t2 hq => ?_)
  match r, hq with
  | .ok (.ret u), hq => exact J.after hq
  | .ok .next, z => exact z.elim
  | .ok .brk, z => exact z.elim
  | .ok .cont, z => exact z.elim
  | .error _, z => exact (show False from z).elim
end
/-- names on which the table is seen: just these -/
def okTab (s : Sl) (q : Str) : Bool := s.any (fun v => match v with | .tab z => decide (z = q) | _ => false) && s.all (fun v => match v with | .tab z => decide (z = q) | _ => true)
section
variable {K : PySem.W.Frag} {mu mu' : Addr → Prop} {H H' : Hp} {p : Option Addr} {Z : Par} {M M' : List Addr} {σ : L2.St} {s : Sl} {q : Str}
theorem SlAll.tabAt : ∀ {σ : L2.St} {s : Sl} {M : List Addr}, SlAll K mu p H σ s M → s.any (fun v => match v with | .tab z => decide (z = q) | _ => false) = true → ∃ P, p = some P ∧ Tabl H P q (fun c => ¬ mu c)
  | _, _, _, .nil, e => by cases e
  | _, _, _, .dat _ t, e => SlAll.tabAt t (by simpa using e)
  | _, _, _, .no t, e => SlAll.tabAt t (by simpa using e)
  | _, _, _, .own _ _ _ t, e => SlAll.tabAt t (by simpa using e)
  | _, _, _, .pot _ _ _ t, e => SlAll.tabAt t (by simpa using e)
  | _, _, _, .dic _ _ t, e => SlAll.tabAt t (by simpa using e)
  | _, _, _, .tab (q := z) e0 h d f t, e => by
    rw [List.any_cons, Bool.or_eq_true] at e
    rcases e with e | e
    · have e' : z = q := of_decide_eq_true e
      subst e'
      exact ⟨_, e0, _, h, d, f⟩
    · exact SlAll.tabAt t e
theorem SlAll.reTab {P : Addr} {ps0 : Array Value} (hp : p = some P) (was : H P = some (.tbl ps0)) (k : ∀ b o, b ≠ P → H b = some o → H' b = some o) (n : ∀ a, a ∈ M' → a ≠ P) (kk : Kp mu H mu H') (now : Tabl H' P q (fun c => ¬ mu c)) :
    ∀ {σ : L2.St} {s : Sl} {M : List Addr}, SlAll K mu p H σ s M → (∀ a ∈ M, a ∈ M') → s.all (fun v => match v with | .tab z => decide (z = q) | _ => true) = true → SlAll K mu p H' σ s M := by
  intro σ s M t
  induction t with
  | nil => intro _ _; exact .nil
  | dat h t ih => intro hs e; exact .dat (h.mono kk) (ih hs (by simpa using e))
  | no t ih => intro hs e; exact .no (ih hs (by simpa using e))
  | own h d m t ih => intro hs e; exact .own (k _ _ (n _ (hs _ List.mem_cons_self)) h) (d.mono kk) m (ih (fun a ha => hs a (List.mem_cons_of_mem _ ha)) (by simpa using e))
  | dic h m t ih => intro hs e; exact .dic (h.mono kk fun o => k _ _ (n _ (hs _ List.mem_cons_self))) m (ih (fun a ha => hs a (List.mem_cons_of_mem _ ha)) (by simpa using e))
  | pot e0 h d t ih =>
    rw [hp] at e0
    cases e0
    rw [was] at h
    cases h
  | @tab x a ps z σ s M e0 h d f t ih =>
    intro hs e
    rw [List.all_cons, Bool.and_eq_true] at e
    have e' : z = q := of_decide_eq_true e.1
    subst e'
    rw [hp] at e0
    cases e0
    obtain ⟨ps, h1, h2, h3⟩ := now
    exact .tab hp h1 h2 h3 (ih hs e.2)
end
/-- what `_law_word` says of how a call ended -/
def dWord (q : Str) (wd : Option Str → Option Str) (m : List PyData → Option (Rx PyData)) (g : DA) : DE := fun s => if okTab s q = true then (g s).bind fun p => (m p.1).bind fun r => (wd (match r with
    | .ok _ => none
    | .ex c => some c)).map fun w => (.str w, p.2) else none
def TTw (K : PySem.W.Frag) (nm : List Str) (wd : Option Str → Option Str) : (XK → Hp → VK → Prop) → Hp → VK → Prop := fun tl H Q => ∀ (E' : XK) (Q' : VK),
  (∀ (c w : Str) (H' : Hp), c ∈ nm → wd (some c) = some w → (∀ H'', (∀ a o, H' a = some o → H'' a = some o) → Q (.str w) H'') → E' (.ref (He.ga K c)) none H') →
  (∀ (v : V) (w : Str) (H' : Hp), wd none = some w → (∀ H'', (∀ a o, H' a = some o → H'' a = some o) → Q (.str w) H'') → Q' v H') → tl E' H Q'
/-- the names of the exceptions that may come stand where the head has them -/
def Nmd (K : PySem.W.Frag) (mg : Str → Option Value) (nm : List Str) : Prop := ∀ c ∈ nm, mg c = some (.ref (He.ga K c))
section
variable {X : Cx} {Z : Par} {ga : DA}
theorem lift_word {P : Addr} {q : Str} {wd : Option Str → Option Str} {m : List PyData → Option (Rx PyData)} {nm : List Str} (hZ : Z.p = some P) (hn : Nmd X.K X.mg nm) (in_ : ∀ c w, wd (some c) = some w → c ∈ nm) {σ : L2.St} {H : Hp} {Q : VK} (h : lft X.K Z (dWord q wd m ga) σ H Q) :
    tWord P q (TTw X.K nm wd) (fun E => lftx X.K X.mg Z (fun cls d _ H => E cls d H) (xCall m ga)) σ H Q := by
  obtain ⟨M, s, d, s', rl, hf, k⟩ := h
  unfold dWord at hf
  split at hf
  case isFalse => cases hf
  rename_i ok
  simp only [Option.bind_eq_some_iff, Option.map_eq_some_iff] at hf
  obtain ⟨⟨ds, s1⟩, h1, r, h2, w, h3, h4⟩ := hf
  cases h4
  unfold okTab at ok
  rw [Bool.and_eq_true] at ok
  obtain ⟨P', e, tab⟩ := rl.sl.tabAt ok.1
  rw [hZ] at e
  cases e
  refine ⟨_, tab, fun H1 stays tab1 E' Q' hE hQ => ?_⟩
  obtain ⟨ps0, was, _, _⟩ := tab
  have nM : ∀ a ∈ M, a ≠ P := fun a ha e => (rl.fr a ha).2.1 (by rw [e]; exact hZ)
  have nmu : ∀ a, ¬ Mu Z M a → a ≠ P := fun a n e => n (.inr (.inl (by rw [e]; exact hZ)))
  have kk : Kp (Mu Z M) H (Mu Z M) H1 := fun a o e n => ⟨stays a o (nmu a n) e, n⟩
  have tab2 : Tabl H1 P q (fun c => ¬ Mu Z M c) := by
    obtain ⟨ps, g1, g2, g3⟩ := tab1
    refine ⟨ps, g1, g2, fun pos cv z => ?_⟩
    obtain ⟨c, e1, e2, e3⟩ := g3 pos cv z
    refine ⟨c, e1, e2, e3.elim id fun e0 n => ?_⟩
    obtain ⟨o, e⟩ := rl.muT c n
    rw [e0] at e
    cases e
  have kq : Kq Z M H M H1 := fun a o e n1 n2 => ⟨stays a o (fun z => n1 (by rw [z]; exact hZ)) e, n2⟩
  have there : ∀ a o, H a = some o → ∃ u, H1 a = some u := fun a o e => by
    by_cases z : a = P
    · obtain ⟨ps, g1, _⟩ := tab2
      exact ⟨_, by rw [z]; exact g1⟩
    · exact ⟨o, stays a o z e⟩
  have rl1 : Rel X.K Z M σ H1 s := by
    refine ⟨fun a o e n => stays a o (fun z => n (by rw [z]; exact hZ)) (rl.base a o e n), fun a ha => ?_, fun a ha => let ⟨o, e⟩ := rl.mz a ha; there a o e, fun a ha => let ⟨o, e⟩ := rl.pt a ha; there a o e, ?_⟩
    · obtain ⟨f1, f2, f3, o, f4⟩ := rl.fr a ha
      exact ⟨f1, f2, f3, there a o f4⟩
    · exact SlAll.reTab hZ was stays nM kk tab2 rl.sl (fun _ h => h) ok.2
  refine ⟨M, s, _, rl1, by unfold xCall; rw [h1, Option.bind_some, h2, Option.map_some], ?_⟩
  cases r with
  | ok d => exact fun v H2 k2 r2 _ => hQ v w H2 h3 fun H3 g3 => k _ H3 (kq.trans (k2.trans (kq_grow g3))) (r2.grow g3) (.str w)
  | ex c =>
    refine fun C H2 hm k2 r2 => ?_
    have hc := in_ c w h3
    have e := hn c hc
    rw [hm] at e
    cases e
    exact hE c w H2 hc h3 fun H3 g3 => k _ H3 (kq.trans (k2.trans (kq_grow g3))) (r2.grow g3) (.str w)
end
end Dl

/-! ### which exception came: the rules, over trees -/
namespace Dl
open PySem PySem.Spec PyProof.Rows L2
/-- what the head knows of the exceptions that may come (nm), asked by isinstance for these (ts) -/
structure ExF (K : PySem.W.Frag) (mg : Str → Option Value) (nm ts : List Str) : Prop where
  cls : ∀ c ∈ nm, ExcC K (He.ga K c)
  kit : ∀ c ∈ nm, ∀ C ∈ ts, PySem.W.kitOne K (.ref (He.ga K c)) (.ref (He.ga K C)) = some (decide (c = C))
  val : ∀ c ∈ nm, PySem.W.kitOne K (.ref (He.ga K c)) (.type "ValueError") = some true
  top : ∀ c ∈ nm, PySem.W.exmOne K (.ref (He.ga K c)) (.ref (He.ga K "AskError")) = some true
  at_ : ∀ c ∈ ("AskError" : Str) :: (nm ++ ts), mg c = some (.ref (He.ga K c))
  mak : ∀ c ∈ nm, ExcK K mg c
def excCB (K : PySem.W.Frag) (D : Addr) : Bool :=
  decide (PySem.W.findIn K (.ref D) "__getattribute__" = some (some (.builtin "BaseException.__getattribute__"))) && (decide (PySem.W.findIn K (.ref D) "__getattr__" = some none) && (decide (PySem.W.subIn K (.ref D) (.type "BaseException") = some true) && (PySem.W.hasDictIn K D &&
  (decide (PySem.W.findIn K (.ref D) "__class__" = some (some (.builtin "object.__class__"))) && (decide (PySem.W.specialIn K (.builtin "object.__class__") "__get__" = some (some (.builtin "getset_descriptor.__get__"))) && (decide (PySem.W.takesIn K (.builtin "object.__class__") = some true) && decide (PySem.W.mroIn K D (.type "object") = some true)))))))
theorem excCB_ok {K : PySem.W.Frag} {D : Addr} (h : excCB K D = true) : ExcC K D := by
  unfold excCB at h
  simp only [Bool.and_eq_true, decide_eq_true_eq] at h
  obtain ⟨h1, h2, h3, h4, h5, h6, h7, h8⟩ := h
  exact ⟨h1, h2, h3, h4, h5, h6, h7, h8⟩
def exkB (K : PySem.W.Frag) (c : Str) : Bool := (He.Fa.exc c).ok K
def exfB (nm ts : List Str) (K : PySem.W.Frag) : Bool :=
  nm.all (fun c => excCB K (He.ga K c) && (ts.all (fun C => decide (PySem.W.kitOne K (.ref (He.ga K c)) (.ref (He.ga K C)) = some (decide (c = C)))) && (decide (PySem.W.kitOne K (.ref (He.ga K c)) (.type "ValueError") = some true) && (decide (PySem.W.exmOne K (.ref (He.ga K c)) (.ref (He.ga K "AskError")) = some true) && exkB K c)))) &&
  (("AskError" : Str) :: (nm ++ ts)).all fun c => (He.Fa.glo c).ok K
theorem exF_of {K : PySem.W.Frag} {h : Heap} {mg : Str → Option Value} {nm ts : List Str} (X : K.In h) (G : h.Ns mainGlobals mg) (e : exfB nm ts K = true) : ExF K mg nm ts := by
  unfold exfB at e
  rw [Bool.and_eq_true, List.all_eq_true, List.all_eq_true] at e
  obtain ⟨e1, e2⟩ := e
  have at_ : ∀ c ∈ ("AskError" : Str) :: (nm ++ ts), mg c = some (.ref (He.ga K c)) := fun c hc => He.glo_ok X G (e2 c hc)
  have part : ∀ c ∈ nm, ExcC K (He.ga K c) ∧ (∀ C ∈ ts, PySem.W.kitOne K (.ref (He.ga K c)) (.ref (He.ga K C)) = some (decide (c = C))) ∧ PySem.W.kitOne K (.ref (He.ga K c)) (.type "ValueError") = some true ∧ PySem.W.exmOne K (.ref (He.ga K c)) (.ref (He.ga K "AskError")) = some true ∧ exkB K c = true := fun c hc => by
    have q := e1 c hc
    simp only [Bool.and_eq_true, decide_eq_true_eq, List.all_eq_true] at q
    obtain ⟨q1, q2, q3, q4, q5⟩ := q
    exact ⟨excCB_ok q1, q2, q3, q4, q5⟩
  refine ⟨fun c hc => (part c hc).1, fun c hc => (part c hc).2.1, fun c hc => (part c hc).2.2.1, fun c hc => (part c hc).2.2.2.1, at_, fun c hc => ?_⟩
  obtain ⟨q1, q2, q3, q4⟩ := He.exc_ok (show (He.Fa.exc c).ok K = true from (part c hc).2.2.2.2)
  exact ⟨_, at_ c (List.mem_cons_of_mem _ (List.mem_append_left _ hc)), q1, q2, q3, q4⟩
/-- e is None -/
def isNoneD : PyData → Bool
  | .none => true
  | _ => false
def gIsN : PyData → PyData → Option PyData
  | d, .none => some (.bool (isNoneD d))
  | _, _ => none
def gNotN : PyData → PyData → Option PyData
  | d, .none => some (.bool (!isNoneD d))
  | _, _ => none
theorem isNone_dt {K : PySem.W.Frag} {mu : Addr → Prop} {H : Hp} {x : V} {d : PyData} (t : Dt K mu H x d) : decide (x = .non) = isNoneD d := by
  cases t <;> rfl
theorem ok_isN {K : PySem.W.Frag} : OpOk K (fun x y H Q => y = .non ∧ Q (.bl (decide (x = .non))) H) gIsN := fun mu H x y d1 d2 d Q hm t1 t2 e k => by
  unfold gIsN at e
  split at e
  · cases e
    exact ⟨t2.none_, by rw [isNone_dt t1]; exact k _ H (fun _ _ z => z) (.bl _)⟩
  · cases e
theorem ok_notN {K : PySem.W.Frag} : OpOk K (fun x y H Q => y = .non ∧ Q (.bl (!decide (x = .non))) H) gNotN := fun mu H x y d1 d2 d Q hm t1 t2 e k => by
  unfold gNotN at e
  split at e
  · cases e
    exact ⟨t2.none_, by rw [isNone_dt t1]; exact k _ H (fun _ _ z => z) (.bl _)⟩
  · cases e
/-- isinstance of an exception -/
def gIsE (nm : List Str) (C : Str) : PyData → Option PyData
  | .dict [(.none, .str c)] => if c ∈ nm then some (.bool (decide (c = C))) else none
  | _ => none
def gIsEs (nm : List Str) (Cs : List Str) : PyData → Option PyData
  | .dict [(.none, .str c)] => if c ∈ nm then some (.bool (Cs.any fun C => decide (c = C))) else none
  | _ => none
def gIsEV (nm : List Str) : PyData → Option PyData
  | .dict [(.none, .str c)] => if c ∈ nm then some (.bool true) else none
  | _ => none
theorem kv_real {K : PySem.W.Frag} {mu : Addr → Prop} {H : Hp} : ∀ {kvs : List (Key × V)} {ds : List (PyData × PyData)}, DtKv K mu H kvs ds → ∀ p ∈ ds, p.1 ≠ .none
  | _, _, .nil, _, hp => by cases hp
  | _, _, .cons (k := k) h t, p, hp => by
    rcases List.mem_cons.mp hp with e | q
    · rw [e]; exact kD_none k
    · exact kv_real t p q
theorem Dt.excAt {K : PySem.W.Frag} {mu : Addr → Prop} {H : Hp} {v : V} {c : Str} (t : Dt K mu H v (.dict [(.none, .str c)])) : ∃ a, v = .ref a ∧ H a = some (ExZ (He.ga K c) a) := by
  generalize e : PyData.dict [(.none, .str c)] = d at t
  cases t with
  | scr h u => cases e
  | exc h n => cases e; exact ⟨_, rfl, h⟩
  | @dct a kvs ds h n u =>
    injection e with e
    subst e
    exact absurd rfl (kv_real u _ List.mem_cons_self)
  | _ => cases e
/-- isinstance(e, c) of an exception that is read in H -/
def rIsX (K : PySem.W.Frag) : List V → Hp → VK → Prop := fun xs H Q => ∃ (a D : Addr) (c : V) (u : Value) (b : Bool), xs = [.ref a, c] ∧ H a = some (ExZ D a) ∧ ExcC K D ∧ ClsV c u ∧ PySem.W.kitOne K (.ref D) u = some b ∧ Q (.bl b) H
def rIsXs (K : PySem.W.Frag) : List V → Hp → VK → Prop := fun xs H Q => ∃ (a D tp : Addr) (cs : List V) (us : List Value) (b : Bool), xs = [.ref a, .ref tp] ∧ H a = some (ExZ D a) ∧ ExcC K D ∧ H tp = some (.tup cs) ∧ Paired ClsV cs us ∧ PySem.W.kitAny K (.ref D) us = some b ∧ Q (.bl b) H
section
variable {X : Cx}
theorem inst_of {pins : List (Addr × Obj)} {σ : L2.St} {H : Hp} {s : Shared} {a D : Addr} (I : Inv X pins σ H s) (h : H a = some (ExZ D a)) : ∃ oe, PySem.W.InstAt s.heap a oe D none := by
  obtain ⟨⟨oe, e, z, vs, d⟩, _, _⟩ := I.hok a _ h
  obtain ⟨oc, od, oda, osl⟩ := oe
  obtain ⟨z1, z2⟩ := z
  dsimp only at z1 z2 d
  subst z1 z2 d
  exact ⟨_, e, rfl, rfl, trivial⟩
theorem call_isX : CallR X (.builtin "isinstance") (rIsX X.K) := by
  intro pins s σ H xs us Q I r h
  obtain ⟨a, D, c, u, b, rfl, hD, C, k, e, q⟩ := h
  obtain ⟨u1, u2, rfl, r1, r2⟩ := vals2 r
  obtain rfl : u1 = .ref a := r1
  have e2 := k.eq r2
  subst e2
  obtain ⟨oe, J⟩ := inst_of I hD
  exact PySem.W.kia_one (PySem.W.handS_kitx_exc C.hg C.hk C.hs C.hd C.ha C.hn C.ht C.hm) I.kIn J e (fun z => nomatch z) fun tk => ⟨.bl b, H, I.tok tk, rfl, q⟩
theorem call_isXs : CallR X (.builtin "isinstance") (rIsXs X.K) := by
  intro pins s σ H xs us Q I r h
  obtain ⟨a, D, tp, cs, ws, b, rfl, hD, C, hT, k, e, q⟩ := h
  obtain ⟨u1, u2, rfl, r1, r2⟩ := vals2 r
  obtain rfl : u1 = .ref a := r1
  obtain rfl : u2 = .ref tp := r2
  obtain ⟨oe, J⟩ := inst_of I hD
  obtain ⟨_, its, rv, o, h1, h2, n, h3⟩ := (show ObjOk X.prog X.w H s.heap tp (.tup cs) from I.hok tp _ hT)
  have e3 := ClsV.all k rv
  subst e3
  obtain ⟨oc, od, dt, sl⟩ := o
  simp only at h2 h3
  subst h2 h3
  exact PySem.W.kia_tup (PySem.W.handS_kitx_exc C.hg C.hk C.hs C.hd C.ha C.hn C.ht C.hm) I.kIn J h1 e (fun z => nomatch z) fun tk => ⟨.bl b, H, I.tok tk, rfl, q⟩
end
section
variable {X : Cx} {Z : Par} {a b e : Expr} {es : List Expr} {pos : Pos} {fa fb : DE} {nm ts : List Str}
theorem disX {x C : Str} {p p2 : Pos} (Fx : ExF X.K X.mg nm ts) (hC : C ∈ ts) (hg : Gl X x) (hm : X.mg x = none) (hv : bootBuiltins x = some (.builtin "isinstance")) (hg2 : Gl X C) (ha : PE X e (lft X.K Z fa)) (hn : x ≠ "__name__" := by decide) (hdb : (x == ("__debug__" : Str)) = false := by decide) (hdb2 : (C == ("__debug__" : Str)) = false := by decide)
    (he : starEach [e, .Name C p2] X.env = (false, eval e X.env) :: starEach [.Name C p2] X.env := by rfl) (he2 : starEach [.Name C p2] X.env = (false, eval (.Name C p2) X.env) :: starEach [] X.env := by rfl) (hpl : (backTo pos (starEach [.Name C p2] X.env)).any (·.1) = false := by rfl) :
    PE X (.Call (.Name x p) [e, .Name C p2] [] pos) (lft X.K Z (dUn (gIsE nm C) fa)) := PEimp (pe_callB call_isX hg hm hv (pa_cons ha (pa_cons (pe_glob (v := .ref (He.ga X.K C)) hg2 (Fx.at_ C (List.mem_cons_of_mem _ (List.mem_append_right _ hC))) rfl hdb2) pa_nil he2) he) hn hdb he hpl) fun σ H Q h => by
  obtain ⟨M, s, d, s', rl, hf, k⟩ := h
  obtain ⟨d1, h1, h3⟩ := dUn_some hf
  refine ⟨M, s, d1, s', rl, h1, fun v H1 k1 r1 t1 => ?_⟩
  unfold gIsE at h3
  split at h3
  · split at h3
    · rename_i c hc
      cases h3
      obtain ⟨a, rfl, ha⟩ := t1.excAt
      exact ⟨a, _, .ref (He.ga X.K C), _, _, rfl, ha, Fx.cls c hc, .own _, Fx.kit c hc C hC, k _ H1 k1 r1 (.bl _)⟩
    · cases h3
  · cases h3
theorem disV {x C : Str} {p p2 : Pos} (Fx : ExF X.K X.mg nm ts) (hg : Gl X x) (hm : X.mg x = none) (hv : bootBuiltins x = some (.builtin "isinstance")) (hg2 : Gl X C) (hm2 : X.mg C = none) (hv2 : bootBuiltins C = some (.type "ValueError")) (ha : PE X e (lft X.K Z fa)) (hn : x ≠ "__name__" := by decide) (hn2 : C ≠ "__name__" := by decide) (hdb : (x == ("__debug__" : Str)) = false := by decide) (hdb2 : (C == ("__debug__" : Str)) = false := by decide)
    (he : starEach [e, .Name C p2] X.env = (false, eval e X.env) :: starEach [.Name C p2] X.env := by rfl) (he2 : starEach [.Name C p2] X.env = (false, eval (.Name C p2) X.env) :: starEach [] X.env := by rfl) (hpl : (backTo pos (starEach [.Name C p2] X.env)).any (·.1) = false := by rfl) :
    PE X (.Call (.Name x p) [e, .Name C p2] [] pos) (lft X.K Z (dUn (gIsEV nm) fa)) := PEimp (pe_callB call_isX hg hm hv (pa_cons ha (pa_cons (pe_bltn (v := .ty "ValueError") hg2 hm2 hv2 rfl hn2 hdb2) pa_nil he2) he) hn hdb he hpl) fun σ H Q h => by
  obtain ⟨M, s, d, s', rl, hf, k⟩ := h
  obtain ⟨d1, h1, h3⟩ := dUn_some hf
  refine ⟨M, s, d1, s', rl, h1, fun v H1 k1 r1 t1 => ?_⟩
  unfold gIsEV at h3
  split at h3
  · split at h3
    · rename_i c hc
      cases h3
      obtain ⟨a, rfl, ha⟩ := t1.excAt
      exact ⟨a, _, .ty "ValueError", _, _, rfl, ha, Fx.cls c hc, .ty _, Fx.val c hc, k _ H1 k1 r1 (.bl _)⟩
    · cases h3
  · cases h3
/-- the classes written in a tuple -/
structure ClsArgs (X : Cx) (es : List Expr) (Cs : List Str) : Prop where
  pa : PA X es (fun σ H Q => Q (Cs.map fun C => V.ref (He.ga X.K C)) H)
theorem clsNil : ClsArgs X [] [] := ⟨pa_nil⟩
theorem clsCons {C : Str} {Cs : List Str} {p2 : Pos} (hm : X.mg C = some (.ref (He.ga X.K C))) (hg2 : Gl X C) (r : ClsArgs X es Cs) (hdb2 : (C == ("__debug__" : Str)) = false := by decide) (hs : starEach (.Name C p2 :: es) X.env = (false, eval (.Name C p2) X.env) :: starEach es X.env := by rfl) : ClsArgs X (.Name C p2 :: es) (C :: Cs) :=
  ⟨PAimp (pa_cons (pe_glob (v := .ref (He.ga X.K C)) hg2 hm rfl hdb2) r.pa hs) fun _ _ _ h => h⟩
theorem kitAny_of {K : PySem.W.Frag} {t : Value} {c : Str} : ∀ {Cs : List Str}, (∀ C ∈ Cs, PySem.W.kitOne K t (.ref (He.ga K C)) = some (decide (c = C))) → PySem.W.kitAny K t (Cs.map fun C => .ref (He.ga K C)) = some (Cs.any fun C => decide (c = C))
  | [], _ => rfl
  | C :: r, h => by
    have e := h C List.mem_cons_self
    have ih := kitAny_of (Cs := r) fun D hD => h D (List.mem_cons_of_mem _ hD)
    rw [List.map_cons, List.any_cons]
    unfold PySem.W.kitAny
    rw [e]
    by_cases q : c = C
    · simp [q]
    · simp only [q, decide_false, Bool.false_or]
      exact ih
theorem clsPaired {K : PySem.W.Frag} : ∀ Cs : List Str, Paired ClsV (Cs.map fun C => V.ref (He.ga K C)) (Cs.map fun C => Value.ref (He.ga K C))
  | [] => .nil
  | C :: r => .cons (.own _) (clsPaired r)
theorem disXs {x : Str} {Cs : List Str} {p p2 : Pos} {x1} (Fx : ExF X.K X.mg nm ts) (hC : ∀ C ∈ Cs, C ∈ ts) (few : Cs.length ≤ 1000) (hg : Gl X x) (hm : X.mg x = none) (hv : bootBuiltins x = some (.builtin "isinstance")) (hcs : ClsArgs X es Cs) (ha : PE X e (lft X.K Z fa)) (hn : x ≠ "__name__" := by decide) (hdb : (x == ("__debug__" : Str)) = false := by decide)
    (he : starEach [e, .Tuple es x1 p2] X.env = (false, eval e X.env) :: starEach [.Tuple es x1 p2] X.env := by rfl) (he2 : starEach [.Tuple es x1 p2] X.env = (false, eval (.Tuple es x1 p2) X.env) :: starEach [] X.env := by rfl) (hpl : (backTo pos (starEach [.Tuple es x1 p2] X.env)).any (·.1) = false := by rfl) :
    PE X (.Call (.Name x p) [e, .Tuple es x1 p2] [] pos) (lft X.K Z (dUn (gIsEs nm Cs) fa)) := PEimp (pe_callB call_isXs hg hm hv (pa_cons ha (pa_cons (pe_tup hcs.pa) pa_nil he2) he) hn hdb he hpl) fun σ H Q h => by
  obtain ⟨M, s, d, s', rl, hf, k⟩ := h
  obtain ⟨d1, h1, h3⟩ := dUn_some hf
  refine ⟨M, s, d1, s', rl, h1, fun v H1 k1 r1 t1 => ⟨by rw [List.length_map]; exact Nat.le_trans few (by decide), fun tp new => ?_⟩⟩
  unfold gIsEs at h3
  split at h3
  · split at h3
    · rename_i c hc
      cases h3
      obtain ⟨a, rfl, ha⟩ := t1.excAt
      refine ⟨a, _, tp, _, _, _, rfl, grow_new new _ _ ha, Fx.cls c hc, upd_same, clsPaired Cs, kitAny_of fun C hC' => Fx.kit c hc C (hC C hC'), ?_⟩
      exact k _ _ (k1.trans (kq_grow (grow_new new))) (r1.grow (grow_new new)) (.bl _)
    · cases h3
  · cases h3
end
/-! #### list.count, list.index of texts, numbers, truths -/
def gCount : PyData → PyData → Option PyData
  | .list ds, d => if ds.all scalD = true ∧ scalD d = true then some (.int (ds.countP fun z => PyData.eqv z d : Nat)) else none
  | _, _ => none
def gIndex : PyData → PyData → Option PyData
  | .list ds, d => if ds.all scalD = true ∧ scalD d = true then (ds.findIdx? fun z => PyData.eqv z d).map fun j => .int (j : Nat) else none
  | _, _ => none
def rCountF (K : PySem.W.Frag) : V → List V → Hp → VK → Prop := fun x xs H Q => ∃ (a : Addr) (ys : List V) (y : V), x = V.ref a ∧ xs = [y] ∧ SqL K H a ys ∧ flatV y = true ∧ ys.all flatV = true ∧ Q (.int (ys.countP fun z => eqV z y : Nat)) H
theorem countP_eqU {x : V} : ∀ {xs : List V} {us : List Value}, Vals xs us → xs.all flatV = true → us.countP (eqU x) = xs.countP fun z => eqV z x
  | _, _, .nil, _ => rfl
  | y :: xs, u :: us, .cons r t, f => by
    rw [List.all_cons, Bool.and_eq_true] at f
    rw [List.countP_cons, List.countP_cons, eqU_of r f.1, countP_eqU t f.2]
theorem mt_countF {X : Cx} : MtR X "list.count" (rCountF X.K) := by
  intro pins s σ H x xs v us Q I rx rxs h
  obtain ⟨a, ys, y, rfl, rfl, hs, fy, fys, q⟩ := h
  cases rx
  obtain ⟨u, rfl, ru⟩ := rxs.one
  obtain ⟨its, rv, ⟨⟨cls, dd, data, sl⟩, n, ho, hc, hdn, hd⟩, hlen⟩ := I.list hs
  simp only at hc hd
  subst hc hd
  refine call_meets PySem.F.slot_list_count ⟨_, ho, rfl⟩ PySem.F.entry_list_count (PySem.F.args_list_count_2 _ _)
    (SeqAt.list_countAt a its.toArray n dd sl u (eqU y)) ⟨ho, fun u' hu' => mem_eqAt ru fy rv fys u' (by simpa using hu'), ?_⟩
  have ec : its.toArray.toList.countP (eqU y) = ys.countP fun z => eqV z y := countP_eqU rv fys
  refine ⟨.int (ys.countP fun z => eqV z y : Nat), H, I.tok _, ⟨s.toks, ?_⟩, q⟩
  rw [ec]
theorem countP_dt {K : PySem.W.Frag} {mu : Addr → Prop} {H : Hp} {y : V} {d : PyData} (t : Dt K mu H y d) (hd : scalD d = true) : ∀ {vs : List V} {ds : List PyData}, DtAll K mu H vs ds → ds.all scalD = true → (vs.countP fun z => eqV z y) = ds.countP fun z => PyData.eqv z d
  | _, _, .nil, _ => rfl
  | _, _, .cons u r, f => by
    rw [List.all_cons, Bool.and_eq_true] at f
    rw [List.countP_cons, List.countP_cons, scal_eq u t f.1 hd, countP_dt t hd r f.2]
section
variable {X : Cx} {Z : Par} {o e : Expr} {fo fe : DE} {name : Str} {apos cpos : Pos}
/-- o.m(e), o a list -/
theorem dmL {id : String} {r : V → List V → Hp → VK → Prop} {g : PyData → PyData → Option PyData} (slot : Slot "list" name id) (hty : typeOf (.builtin id) = pure (.type "method_descriptor")) (hm : MtR X id r) (isL : ∀ d1 d2 d, g d1 d2 = some d → ∃ ds, d1 = .list ds)
    (ok : ∀ (mu : Addr → Prop) (H : Hp) (x y : V) (d1 d2 d : PyData) (Q : VK), Dt X.K mu H x d1 → Dt X.K mu H y d2 → g d1 d2 = some d → (∀ v, Dt X.K mu H v d → Q v H) → r x [y] H Q) (ho : PE X o (lft X.K Z fo)) (ha : PE X e (lft X.K Z fe))
    (hbase : attributeBase o name X.env (eval o X.env) = eval o X.env := by rfl)
    (hfew : ((backTo cpos (starEach [e] X.env)).all (fun x => !x.1) && (backToKw cpos (keywordEach [] X.env)).all (fun x => x.1.isSome)
      && decide ([e].length + ([] : List Keyword).length + (if ([] : List Keyword).isEmpty then 0 else 1) < 30)) = true := by rfl)
    (hline : (apos.endLine == cpos.line) = true := by rfl) (hs : starEach [e] X.env = (false, eval e X.env) :: starEach [] X.env := by rfl) (hplain : (backTo cpos (starEach [] X.env)).any (·.1) = false := by rfl) :
    PE X (.Call (.Attribute o name apos) [e] [] cpos) (lft X.K Z (dOp g fo fe)) := PEimp (pe_bm PySem.F.plainAttrs_list slot hty hm ho (pa_cons ha pa_nil hs) hbase hfew hline hs hplain) fun σ H Q h => by
  obtain ⟨M, s, d, s', rl, hf, k⟩ := h
  obtain ⟨d1, s1, d2, h1, h2, h3⟩ := dOp_some hf
  obtain ⟨ds, rfl⟩ := isL _ _ _ h3
  refine ⟨M, s, _, s1, rl, h1, fun x H1 k1 r1 t1 => ?_⟩
  obtain ⟨a, xs, rfl, q1, q2⟩ := t1.list
  refine ⟨.inl ⟨rfl, xs, q1⟩, M, s1, d2, s', r1, h2, fun y H2 k2 r2 t2 => ?_⟩
  exact ok (Mu Z M) H2 (.ref a) y _ d2 d Q (t1.mono k2.kp) t2 h3 fun v t3 => k v H2 (k1.trans k2) r2 t3
theorem dcount (ho : PE X o (lft X.K Z fo)) (ha : PE X e (lft X.K Z fe)) (hbase : attributeBase o "count" X.env (eval o X.env) = eval o X.env := by rfl)
    (hfew : ((backTo cpos (starEach [e] X.env)).all (fun x => !x.1) && (backToKw cpos (keywordEach [] X.env)).all (fun x => x.1.isSome)
      && decide ([e].length + ([] : List Keyword).length + (if ([] : List Keyword).isEmpty then 0 else 1) < 30)) = true := by rfl)
    (hline : (apos.endLine == cpos.line) = true := by rfl) (hs : starEach [e] X.env = (false, eval e X.env) :: starEach [] X.env := by rfl) (hplain : (backTo cpos (starEach [] X.env)).any (·.1) = false := by rfl) :
    PE X (.Call (.Attribute o "count" apos) [e] [] cpos) (lft X.K Z (dOp gCount fo fe)) :=
  dmL PySem.F.slot_list_count PySem.F.type_list_count mt_countF (fun d1 d2 d h => by unfold gCount at h; split at h; exact ⟨_, rfl⟩; cases h) (fun mu H x y d1 d2 d Q t1 t2 h k => by
    unfold gCount at h
    split at h
    · split at h
      · rename_i c
        cases h
        obtain ⟨a, xs, rfl, q1, q2⟩ := t1.list
        refine ⟨a, xs, y, rfl, rfl, q1, scal_v t2 c.2, scal_vs q2 c.1, ?_⟩
        rw [countP_dt t2 c.2 q2 c.1]
        exact k _ (.int _)
      · cases h
    · cases h) ho ha hbase hfew hline hs hplain
theorem eqv_get {K : PySem.W.Frag} {mu : Addr → Prop} {H : Hp} {vs : List V} {ds : List PyData} (t : DtAll K mu H vs ds) (f : ds.all scalD = true) {m : Nat} {z : V} (h : vs[m]? = some z) : ∃ d, ds[m]? = some d ∧ Dt K mu H z d ∧ scalD d = true := by
  obtain ⟨d, e, u⟩ := t.getv h
  exact ⟨d, e, u, List.all_eq_true.mp f d (List.mem_of_getElem? e)⟩
theorem gIndex_some {d1 d2 d : PyData} (h : gIndex d1 d2 = some d) : ∃ (ds : List PyData) (j : Nat), d1 = .list ds ∧ ds.all scalD = true ∧ scalD d2 = true ∧ (ds.findIdx? fun z => PyData.eqv z d2) = some j ∧ d = .int (j : Nat) := by
  cases d1 with
  | list ds =>
    unfold gIndex at h
    dsimp only at h
    split at h
    · rename_i c
      simp only [Option.map_eq_some_iff] at h
      obtain ⟨j, h1, h2⟩ := h
      exact ⟨ds, j, rfl, c.1, c.2, h1, h2.symm⟩
    · cases h
  | _ => cases h
theorem dindex (ho : PE X o (lft X.K Z fo)) (ha : PE X e (lft X.K Z fe)) (hbase : attributeBase o "index" X.env (eval o X.env) = eval o X.env := by rfl)
    (hfew : ((backTo cpos (starEach [e] X.env)).all (fun x => !x.1) && (backToKw cpos (keywordEach [] X.env)).all (fun x => x.1.isSome)
      && decide ([e].length + ([] : List Keyword).length + (if ([] : List Keyword).isEmpty then 0 else 1) < 30)) = true := by rfl)
    (hline : (apos.endLine == cpos.line) = true := by rfl) (hs : starEach [e] X.env = (false, eval e X.env) :: starEach [] X.env := by rfl) (hplain : (backTo cpos (starEach [] X.env)).any (·.1) = false := by rfl) :
    PE X (.Call (.Attribute o "index" apos) [e] [] cpos) (lft X.K Z (dOp gIndex fo fe)) :=
  dmL PySem.F.slot_list_index PySem.F.type_list_index mt_index (fun d1 d2 d h => by unfold gIndex at h; split at h; exact ⟨_, rfl⟩; cases h) (fun mu H x y d1 d2 d Q t1 t2 h k => by
    obtain ⟨ds, j, rfl, c1, c2, h1, rfl⟩ := gIndex_some h
    obtain ⟨a, xs, rfl, q1, q2⟩ := t1.list
    have c : ds.all scalD = true ∧ scalD d2 = true := ⟨c1, c2⟩
    rw [List.findIdx?_eq_some_iff_getElem] at h1
    obtain ⟨hj, e1, e2⟩ := h1
    obtain ⟨z, g1, g2⟩ := q2.get (List.getElem?_eq_getElem hj)
    have sc : scalD ds[j] = true := List.all_eq_true.mp c.1 _ (List.getElem_mem hj)
    refine ⟨a, xs, y, j, z, rfl, rfl, q1, scal_v t2 c.2, scal_vs q2 c.1, g1, ?_, fun m z' hm hz => ?_, k _ (.int _)⟩
    · rw [scal_eq g2 t2 sc c.2]; exact e1
    · obtain ⟨d', f1, f2, f3⟩ := eqv_get q2 c.1 hz
      rw [scal_eq f2 t2 f3 c.2]
      obtain ⟨hm', rfl⟩ := List.getElem?_eq_some_iff.mp f1
      exact Bool.eq_false_iff.mpr (e2 m hm)) ho ha hbase hfew hline hs hplain
end
end Dl

/-! ### the def that tells which exception came; the law's end with a table of code objects -/
namespace Dl
open PySem PySem.Spec PyProof.Rows L2
theorem slAll_rest {K : PySem.W.Frag} {mu : Addr → Prop} {q : Option Addr} {H : Hp} : ∀ {σ : L2.St} {n : Nat}, σ.length = n → SlAll K mu q H σ (List.replicate n .no) []
  | [], 0, _ => .nil
  | x :: σ, n + 1, e => .no (slAll_rest (by simpa using e))
def caught : Option Str → PyData
  | none => .none
  | some c => excD c
/-- a body behind the try: its meaning at the slot of what was caught -/
def wordAt (n : Nat) (b : DS) (oc : Option Str) : Option Str := match b (.no :: .dat (caught oc) :: List.replicate n .no) with
  | some (.rt (.str w) _) => some w
  | _ => none
def wordOf (nm : List Str) (n : Nat) (b : DS) (oc : Option Str) : Option Str := match oc with
  | none => wordAt n b none
  | some c => if c ∈ nm then wordAt n b (some c) else none
theorem wordAt_some {n : Nat} {b : DS} {oc : Option Str} {w : Str} (h : wordAt n b oc = some w) : ∃ s', b (.no :: .dat (caught oc) :: List.replicate n .no) = some (.rt (.str w) s') := by
  unfold wordAt at h
  split at h
  · rename_i w' s' e
    cases h
    exact ⟨s', e⟩
  · cases h
theorem word_ready {K : PySem.W.Frag} {n : Nat} {b : DS} {oc : Option Str} {w : Str} (h : wordAt n b oc = some w) {σ : L2.St} {x v : Option V} {y : V} {H : Hp} {Q : VK} (len : σ.length = n) (t : ∀ mu : Addr → Prop, (∀ a, ¬ mu a) → Dt K mu H y (caught oc))
    (q : ∀ H'', (∀ a o, H a = some o → H'' a = some o) → Q (.str w) H'') (E : L2.St → Hp → Prop) : ∃ Z, lfS K Z b { nx := E, rt := Q } (x :: some y :: σ) H := by
  obtain ⟨s', e⟩ := wordAt_some h
  refine ⟨⟨H, none, fun _ => False⟩, [], _, _, ⟨fun a o z _ => z, fun _ z => (by cases z), fun _ z => z.elim, fun _ z => (by cases z), .no (.dat (t _ fun a z => ?_) (slAll_rest len))⟩, e, fun M σ' H' u k r tu => ?_⟩
  · rcases z with z | z | z
    · exact z
    · cases z
    · cases z
  · rw [tu.text]
    exact q H' fun a o z => r.base a o z fun w => by cases w
section
variable {X : Cx}
theorem word_gives {Ng more : List Str} {x a y n z q : Str} {sg : Scope} {g : Addr} {cdg : Value} {bg rest : List Stmt} {nm ts : List Str} {b : DS} {j : Nat} {py py2 p0 pa pa2 p1 p2 p3 np pn pos pos' : Pos}
    (hN : Ng = a :: y :: n :: more) (nd : Ng.Nodup) (Fx : ExF X.K X.mg nm ts) (hz : z = "AskError")
    (hbg : bg = .Assign [.Name y py] (.Constant .none j p0) pa :: .Try [.Expr (.Call (.Name a p1) [] [] p2) p3] [.ExceptHandler (some (.Name z np)) (some n) [.Assign [.Name y py2] (.Name n pn) pa2] pos'] [] [] pos :: rest)
    (ly : sg.names.lookup y = some .local) (ln : sg.names.lookup n = some .local) (la : Vis sg a) (gz : sg.names.lookup z = some .globalImplicit)
    (sw1 : ∀ (C : Cx), C.env.scope = sg → C.N = Ng → swapsWith (.Constant .none j p0) (some (.Name y py)) pa.line C.env = pure false) (sw2 : ∀ (C : Cx), C.env.scope = sg → swapsWith (.Name n pn) (some (.Name y py2)) pa2.line C.env = pure false) (sw3 : ∀ (C : Cx), C.env.scope = sg → swapsWith (.Call (.Name a p1) [] [] p2) none p3.line C.env = pure false)
    (dn1 : (n == ("__debug__" : Str)) = false) (dn2 : (n == ("__classdict__" : Str)) = false)
    (hrest : ∀ (f : Addr) (s : Shared) (H : Hp) (Z : Par), PSs (cxOf C8.CX0 X.prog X.w X.K X.mg X.base Ng x sg g cdg X.A X.stack s H C8.E0).nox rest (lfS X.K Z b)) :
    LamX.GivesTo X Ng x sg g cdg bg a q (TTw X.K nm (wordOf nm (more.length + 1) b)) := by
  intro f c' s H Q tl act hc h
  subst hbg hN hz
  have gl : Gl (cxOf C8.CX0 X.prog X.w X.K X.mg X.base (a :: y :: n :: more) x sg g cdg X.A X.stack s H C8.E0).nox "AskError" := gz
  refine ⟨_, pss_cons (ps_set (i := 1) nd rfl (.inl ly) pe_non (sw1 _ rfl rfl) (.inr ly)) (pss_cons (ps_try_keep (X := (cxOf C8.CX0 X.prog X.w X.K X.mg X.base (a :: y :: n :: more) x sg g cdg X.A X.stack s H C8.E0).nox) (i := 2) (j := 1) (c := .ref (He.ga X.K "AskError"))
      (tb := fun W D σ H => ∃ Ech : XK, (∀ cls d σ' H', Ech cls d H' → W cls d σ' H') ∧ σ[0]? = some (some (.ref f)) ∧ H c' = some (LamX.CodeO c' q) ∧ tl Ech H (fun _ H' => D.nx σ H'))
      rfl rfl rfl nd rfl (by exact ln) rfl (.inl ly) ⟨gl, by decide, .inl (Fx.at_ _ List.mem_cons_self)⟩ (fun W pl xe tk _ => ?_) (fun ae oe pl => pss_one (PSimp (ps_set (i := 1) nd rfl (.inl ly) (pe_var (i := 2) rfl (.inl ln) ?_ ?_) (sw2 _ rfl) (.inr ly)) fun D σ H h => ?_)) ?_)
      (u := fun D σ H => ∃ Z, lfS X.K Z b D σ H) ⟨fun pins s' σ H' D I ⟨Z, r⟩ => (hrest f s H Z).run pins s' σ H' D I r⟩), ?_⟩
  · refine pss_one ⟨fun pins s' σ H' D I h' => ?_⟩
    obtain ⟨Ech, hW, h1, h2, h3⟩ := h'
    exact (ps_expr (pos := p3) (act W pl xe Ech p1 p2 tk hW) (sw3 _ rfl)).run pins s' σ H' D I ⟨h1, h2, h3⟩
  · exact dn1
  · exact dn2
  · exact h
  · show 2 < (a :: y :: n :: more).length
    simp
  · refine ⟨fun cls d H' => ∃ c w, c ∈ nm ∧ cls = .ref (He.ga X.K c) ∧ d = none ∧ wordOf nm (more.length + 1) b (some c) = some w ∧ ∀ H'', (∀ a o, H' a = some o → H'' a = some o) → Q (.str w) H'', fun cls d σ' H' hE => ?_, rfl, hc, h _ _ (fun c w H' hc hw hq => ⟨c, w, hc, rfl, rfl, hw, hq⟩) (fun v w H' hw hq => ?_)⟩
    · obtain ⟨c, w, hcn, rfl, rfl, hw, hq⟩ := hE
      refine ⟨_, rfl, rfl, Fx.top c hcn, fun len ae na => ?_⟩
      have len : σ'.length = (a :: y :: n :: more).length := len
      match σ', len with
      | o0 :: o1 :: o2 :: r, len =>
        have len' : r.length = more.length := by simpa using len
        have hw' : wordAt (more.length + 1) b (some c) = some w := by
          have h2 : (if c ∈ nm then wordAt (more.length + 1) b (some c) else none) = some w := hw
          rw [if_pos hcn] at h2
          exact h2
        exact word_ready (v := none) (x := o0) (y := .ref ae) (σ := none :: r) hw' (by rw [List.length_cons, len']) (fun mu n => .exc upd_same (n ae)) (fun H'' g => hq H'' fun b o e => g b o (grow_new na b o e)) _
    · exact word_ready (v := none) (x := some (.ref f)) (y := .non) (σ := none :: List.replicate more.length none) hw (by simp) (fun mu n => .non) hq _
end
/-- x(lambda: f(..)), x the def that tells which exception came -/
theorem dword {X : Cx} {Z : Par} {ga : DA} {x a q : Str} {st : Stmt} {Ng : List Str} {nm : List Str} {wd : Option Str → Option Str} {m : List PyData → Option (Rx PyData)} {c P : Addr} {k : Nat} {ps0 : Arguments} {body : Expr} {scope : Scope} {p lpos pos : Pos}
    (F : Std X.K X.mg x st [a]) (Sg : FnScope Ng [a] (defScope st)) (hNg : Ng[0]? = some a) (hva : Vis (defScope st) a) (hG : ∀ (g : Addr) (cdv : Value), LamX.GivesTo X Ng x (defScope st) g cdv (defBody st) a (X.env.qual ++ "<lambda>") (TTw X.K nm wd))
    (TB : LamX.TabB X.base X.mg c P) (hcode : X.env.code = .ref c) (hZ : Z.p = some P) (hq : q = X.env.qual ++ "<lambda>") (hr : Room (k + 2) X.A) (hn : Nmd X.K X.mg nm) (in_ : ∀ c w, wd (some c) = some w → c ∈ nm) (hg : Gl X x)
    (L : LamX.LamS X.env.scope scope) (hbody : ∀ (A : Around) (outer : List Env) (s : Shared) (H : Hp) (E : XK) (f c' : Addr), Room k (A.deeper (LamX.lamEnv X scope s.heap.objs.size f c')) → PE (LamX.lamCx X A outer s H E scope f c') body (lftx X.K X.mg Z (fun cls d _ H => E cls d H) (xCall m ga)))
    (hdef : defaultsOf ps0 X.env = ([], []) := by rfl) (hbind : ∀ (q : Str) (cl : List (Str × Addr)) (pm cv ctv : Value), bindArgs (PySem.W.kla_fn "<lambda>" q ps0 body scope cl pm cv ctv) ⟨[], []⟩ = pure [] := by intro _ _ _ _ _; rfl)
    (hdb : (x == ("__debug__" : Str)) = false := by decide) (hd : (a == ("__debug__" : Str)) = false := by decide) (hcd : (a == ("__classdict__" : Str)) = false := by decide) :
    PE X (.Call (.Name x p) [.Lambda ps0 body scope lpos] [] pos) (lft X.K Z (dWord q wd m ga)) := by
  obtain ⟨g, fd, F, hm, hb⟩ := F
  obtain ⟨⟨oc, od, kV, doc, pm, an, cdv, ct, osl, e1, lk, hcd2⟩, kp⟩ := F
  subst e1 hq
  exact PEimp (pe_word hg hm kp lk hcd2 hb Sg hNg hva (hG g cdv) TB hcode hr L hdef hbind hbody hdb hd hcd) fun _ _ _ h => lift_word hZ hn in_ h
/-! #### the law's end -/
def startT (N : List Str) (q : Str) (ds : List PyData) : Sl := ds.map SV.dat ++ (List.replicate (N.length - 1 - ds.length) .no ++ [.tab q])
def fnT (N : List Str) (q : Str) (n : Nat) (b : DS) : List PyData → Option PyData := fun ds => if ds.length = n then outP (b (startT N q ds)) else none
section
variable {P : Program} {w : World} {K : PySem.W.Frag} {mg mb : Str → Option Value}
theorem slAll_tab {mu : Addr → Prop} {q : Str} {H : Hp} {T : Addr} (h : H T = some (.tbl #[])) : ∀ n : Nat, SlAll K mu (some T) H (List.replicate (n + 1) none) (List.replicate n .no ++ [.tab q]) []
  | 0 => .tab rfl h trivial (fun pos cv z => by
      have z' : codeAmong pos [] = some cv := z
      simp [codeAmong] at z') .nil
  | n + 1 => .no (slAll_tab h n)
theorem law_hereT {x p q : Str} {st : Stmt} {fa a c T : Addr} {fd : FuncData} {N : List Str} {k : Nat} {b : DS} {s₁ : Shared} {vs : List Value} {ns : List Int}
    (KX : K.In s₁.heap) (hns : s₁.heap.Ns mainGlobals mg) (hbl : s₁.heap.Ns builtinsNs mb) (hbb : ∀ y : Str, y ≠ "__name__" → mb y = bootBuiltins y) (hlim : s₁.heap.NoLimit) (hmo : ∃ mm, s₁.heap.Ns sysModules mm) (hg : s₁.gens = #[])
    (ha : s₁.heap.get? a = some { cls := .type "list", data := .seq vs.toArray }) (hi : IntsAre vs ns) (few : ns.length ≤ sizeLine) (room : Room (k + 1) callerA) (F : Fun K x x st fa fd) (S : FnScope N [p] (defScope st)) (bt : ∀ (s : Shared) (u : Value), BindsTo s fd ⟨[u], []⟩ [(p, u)])
    (hT : s₁.heap.get? T = some { cls := .none, data := .fields #[] }) (nT : K.lookup T = none) (C : PySem.W.CodeHd s₁.heap c T) (hcd : fd.code = .ref c)
    (hbm : ∃ (bm : Addr) (ob : Obj), mg "__builtins__" = some (.ref bm) ∧ bm ≠ builtinsNs ∧ s₁.heap.get? bm = some ob ∧ ob.cls = .type "module" ∧ ob.dict = some builtinsNs ∧ ob.data = .plain) (len2 : 2 ≤ N.length)
    (body : ∀ (base : Heap) (s : Shared) (H : Hp) (Z : Par), Mod K mg base → Room k (callerA.deeper (envOfC x (defScope st) s.heap.objs.size fa (.ref c))) → CG (cxOf CX0 P w K mg base N x (defScope st) fa (.ref c) callerA [] s H E0).nox → LamX.TabB base mg c T → Z.p = some T →
      PSs (cxOf CX0 P w K mg base N x (defScope st) fa (.ref c) callerA [] s H E0).nox (defBody st) (lfS K Z b))
    (true_ : fnT N q 1 b [.dict [(.none, .list (ns.map .int))]] = some (.bool true)) :
    codeAny (model P w) callerA (.call (.ref fa) ⟨[.ref a], []⟩) (fun r s' => r = .ok (.ret (.bool true)) ∧ OldK s₁.heap s'.heap ∧ s'.os = s₁.os ∧ AllBare s'.gens) s₁ := by
  obtain ⟨G, gok, hG, here⟩ := script_in (P := P) (w := w) KX ha hi few
  have aT : T ≠ a := fun e => by
    rw [e, ha] at hT
    cases hT
  have gT : G T = none := by
    cases z : G T with
    | none => rfl
    | some u => exact absurd (hG T u z).1 aT
  let H : Hp := upd G T (.tbl #[])
  have atT : H T = some (.tbl #[]) := upd_same
  have elseT : ∀ b, b ≠ T → H b = G b := fun b h => upd_ne h
  have fromG : ∀ b u, G b = some u → H b = some u := grow_new gT
  have hH : ∀ b u, H b = some u → b = T ∧ u = .tbl #[] ∨ (b = a ∧ K.lookup a = none ∧ ∃ o u', u = .frz o u') := fun b u z => by
    by_cases e : b = T
    · subst e
      rw [atT] at z
      cases z
      exact .inl ⟨rfl, rfl⟩
    · rw [elseT b e] at z
      obtain ⟨rfl, h2⟩ := hG b u z
      exact .inr ⟨rfl, h2⟩
  have hok : HOk P w H s₁.heap := fun b u z => by
    rcases hH b u z with ⟨rfl, rfl⟩ | ⟨rfl, _, o, u', rfl⟩
    · exact hT
    · rw [elseT b (fun e => aT e.symm)] at z
      exact (gok b _ z).stay (fun _ _ _ r => r) (fun c r => fromG _ _ r) fun c xs r => fromG _ _ r
  have free_of : ∀ {b : Addr} {o : Obj}, s₁.heap.get? b = some o → (∀ vs n, o.data ≠ .seq vs n) → o.data ≠ .fields #[] → H b = none := fun {b o} e h1 h2 => by
    cases z : H b with
    | none => rfl
    | some u =>
      rcases hH b u z with ⟨rfl, _⟩ | ⟨rfl, _⟩
      · rw [hT] at e
        cases e
        exact absurd rfl h2
      · rw [ha] at e
        cases e
        exact absurd rfl (h1 _ _)
  have dict_free : ∀ {b : Addr} {o : Obj} {es : Array DictEntry} {n : Nat}, s₁.heap.get? b = some o → o.data = .dict es n → H b = none := fun {b o es n} e d => free_of e (fun _ _ z => by rw [d] at z; cases z) (fun z => by rw [d] at z; cases z)
  have ns_in : ∀ {b : Addr} {m : Str → Option Value}, s₁.heap.Ns b m → (hidT s₁.heap H).Ns b m := fun ⟨o, es, n, e, d, r⟩ => ⟨o, es, n, hidT_get e (dict_free e d), d, r⟩
  have mod : Mod K mg (hidT s₁.heap H) := {
    kin := fun b o e => hidT_get (KX b o e) (by
      cases z : H b with
      | none => rfl
      | some u =>
        rcases hH b u z with ⟨rfl, _⟩ | ⟨rfl, q, _⟩
        · rw [nT] at e; cases e
        · rw [q] at e; cases e)
    glob := ns_in hns
    blt := ⟨mb, ns_in hbl, hbb⟩
    nolimit := let ⟨mc, q1, q2⟩ := hlim; ⟨mc, ns_in q1, q2⟩ }
  have TB : LamX.TabB (hidT s₁.heap H) mg c T := by
    refine ⟨?_, ?_, fun z => ?_⟩
    · obtain ⟨o, us, file, tf, flags, tg, inF, text, tt, e1, r1, r2, r3, r4, r5, r6, r7, r8, hne⟩ := C
      refine ⟨o, us, file, tf, flags, tg, inF, text, tt, hidT_get e1 (free_of e1 (fun vs n z => ?_) fun z => ?_), r1, r2, r3, r4, r5, r6, r7, r8, hne⟩
      · rw [r2] at z; cases z
      · rw [r2] at z
        cases z
        simp at r3
    · obtain ⟨bm, ob, b1, b2, b3, b4, b5, b6⟩ := hbm
      refine ⟨bm, ob, b1, b2, fun e => ?_, fun e => ?_, hidT_get b3 (free_of b3 (fun vs n z => ?_) fun z => ?_), b4, b5, b6⟩
      · obtain ⟨o, es, n, e3, d, _⟩ := hns
        rw [e, e3] at b3
        cases b3
        rw [d] at b6
        cases b6
      · rw [e, hT] at b3
        cases b3
        cases b6
      · rw [b6] at z; cases z
      · rw [b6] at z; cases z
    · obtain ⟨o, es, n, e, d, _⟩ := hns
      rw [z, hT] at e
      cases e
      cases d
  have e0 : Env0 P w K mg (hidT s₁.heap H) callerA [] s₁ H := ⟨rfl, mod, fun _ _ e => of_hidT e, by rw [hidT_size]; exact Nat.le_refl _, trivial, fun c hc => (by cases hc), hok, .of_eq hg⟩
  have sys : ∃ o es n, (hidT s₁.heap H).get? sysModules = some o ∧ o.data = .dict es n := by
    obtain ⟨mm, o, es, n, e, d, _⟩ := hmo
    exact ⟨o, es, n, hidT_get e (dict_free e d), d⟩
  let Z : Par := ⟨H, some T, fun _ => False⟩
  have only : ∀ b, Mu Z [] b → b = T := fun b z => by
    rcases z with z | z | z
    · exact z.elim
    · exact (Option.some.inj z).symm
    · cases z
  have td : Dt K (Mu Z []) H (.ref a) (.dict [(.none, .list (ns.map .int))]) := .scr (here.imp (fun z => ⟨z.imp (fun z => fromG _ _ z) fun ⟨o, z⟩ => ⟨o, fromG _ _ z⟩, fun z => aT (only a z).symm⟩) id) (dtAll_ints ns)
  have rel : Rel K Z [] (L2.start N [.ref a]) H (startT N q [.dict [(.none, .list (ns.map .int))]]) := by
    refine ⟨fun _ _ e _ => e, fun _ z => (by cases z), fun _ z => z.elim, fun b z => ⟨_, (Option.some.inj z) ▸ atT⟩, ?_⟩
    obtain ⟨n, hn⟩ : ∃ n, N.length = n + 2 := ⟨N.length - 2, by omega⟩
    have e1 : L2.start N [.ref a] = some (.ref a) :: List.replicate (n + 1) none := by
      unfold L2.start
      rw [List.length_singleton, hn]
      rfl
    have e2 : startT N q [.dict [(.none, .list (ns.map .int))]] = .dat (.dict [(.none, .list (ns.map .int))]) :: (List.replicate n .no ++ [.tab q]) := by
      unfold startT
      rw [List.length_singleton, hn]
      rfl
    rw [e1, e2]
    exact .dat td (slAll_tab atT n)
  have ready : lfS K Z b { nx := fun _ H' => False, rt := fun v _ => v = .bl true } (L2.start N [.ref a]) H := by
    have tr : outP (b (startT N q [.dict [(.none, .list (ns.map .int))]])) = some (.bool true) := by
      unfold fnT at true_
      rw [if_pos (show [PyData.dict [(PyData.none, PyData.list (ns.map PyData.int))]].length = 1 from rfl)] at true_
      exact true_
    clear true_
    unfold outP at tr
    split at tr
    · rename_i d1 s1 hq
      cases tr
      exact ⟨_, _, _, rel, hq, fun M σ H1 v k1 r1 t1 => t1.bool⟩
    · cases tr
    · cases tr
  obtain ⟨⟨oc, od, kV, doc, pm, an, cdv, ct, osl, e1, lk, hcdv⟩, kp⟩ := F
  subst e1
  have ecd : cdv = .ref c := hcd
  subst ecd
  have slots : ∀ y ∈ [(p, Value.ref a)], (defScope st).names.lookup y.1 = some .local ∨ ((defScope st).names.lookup y.1 = some .cell ∧ ((cellsFrom (s₁.heap.objs.size + 1) (defScope st).names []).lookup y.1).isSome = true) := fun y hy => by
    obtain rfl := List.mem_singleton.mp hy
    exact (S.par p (List.mem_singleton.mpr rfl)).imp id fun z => ⟨z, PySem.W.cellsFrom_some _ _ _ (.inl z)⟩
  have ran : codeAny (model P w) callerA (.call (.ref fa) ⟨[.ref a], []⟩) (CR CX0 [] P w H s₁ (fun v _ => v = .bl true) E0) s₁ := by
    refine codeAny_call_function room.depth (KX _ _ lk) rfl S.co S.gen rfl (PySem.W.codeRec_of KX hcdv) (bt s₁ (.ref a) _ _ _ _ (wpAny_newFunctionEnv_cells S.kind slots fun env he t0 io => ?_))
    cases he
    refine ⟨hlim.keeps io.toInCall.keep, codeAny_func ?_⟩
    have begun : Inv (cxOf CX0 P w K mg (hidT s₁.heap H) N x (defScope st) fa (.ref c) callerA [] s₁ H E0) [] (L2.start N [.ref a]) H t0 := inv_start S room.hd e0 rfl (.cons rfl .nil) io
    refine wpAny_mono ((body _ s₁ H Z mod (room.deeper _) ⟨rfl, by show 4 + 3 + 100 < 9900; omega, sys⟩ TB rfl).nox.run [] t0 _ H _ begun ready) (fun fl t1 done => ?_) fun _ _ z => z
    match fl, done with
    | .ret u, ⟨v, σ', H', J, rv, q⟩ => exact ⟨v, H', J.os, J.bare, J.base, J.hok, rv, q⟩
    | .next, ⟨_, _, _, z⟩ => exact z.elim
    | .brk, ⟨_, _, _, z⟩ => exact z.elim
    | .cont, ⟨_, _, _, z⟩ => exact z.elim
  refine codeAny_mono ran fun r t1 done => ?_
  match r, done with
  | .ok (.ret u), ⟨v, H', os, bare, un, ok', rv, q⟩ =>
    subst q
    obtain rfl : u = .bool true := rv
    obtain ⟨more, hm⟩ := un.tbls T #[] atT
    rw [Array.empty_append] at hm
    have grown : t1.heap.get? T = some { cls := .none, data := .fields more } := ok' T _ hm
    have same : ∀ b o, b ≠ T → s₁.heap.get? b = some o → t1.heap.get? b = some o := fun b o nb e => by
      cases z : H b with
      | none => exact un.keep b o e z (by simp [frs]) List.not_mem_nil
      | some u =>
        rcases hH b u z with ⟨rfl, _⟩ | ⟨rfl, _, o', u', rfl⟩
        · exact absurd rfl nb
        · have now := (ok' b _ (un.frzs b o' u' z)).1
          have was := (hok b _ z).1
          rw [was] at e
          cases e
          exact now
    refine ⟨rfl, ⟨fun b o e => ?_, fun b o e => ?_⟩, os, bare⟩
    · by_cases hb : b = T
      · subst hb
        rw [hT] at e
        cases e
        exact .inr (.inl ⟨(C.tab hT).isCodeTable, rfl, #[], more, rfl, by rw [Array.empty_append]; exact grown⟩)
      · exact .inl (same b o hb e)
    · by_cases hb : b = T
      · exact ⟨_, by rw [hb]; exact grown⟩
      · exact ⟨o, same b o hb e⟩
  | .ok .next, z => exact z.elim
  | .ok .brk, z => exact z.elim
  | .ok .cont, z => exact z.elim
  | .error e, z => exact (show False from z).elim
end
/-! #### the head -/
def lawD : He.Defn := ("law", none)
def exB (cs : List (Str × PyData)) (nm ts : List Str) (K : PySem.W.Frag) : Bool := cs.all (gcB K) && exfB nm ts K
/-- the law walked: as walk_data, the law making lambdas -/
theorem walk_dataT {l : PySem.W.OpenLaw} {n k : Nat} {q : Program} {loose : List Str} {XP : (Str → Option Value) → Heap → Prop} {d : DefRec} {fa : List He.Fa} {fn : List He.DefD} {cs : List (Str × PyData)} {nm ts : List Str} {m : Nat} {p qq : Str} {st : Stmt} {N : List Str} {b : DS}
    (most : l.most = some n) (few : n ≤ sizeLine) (hdf : d.params.defaults = []) (name : d.name = "law") (alone : importsNone q = true) (room : Room (k + 1) callerA) (S : FnScope N [p] (defScope st)) (len2 : 2 ≤ N.length)
    (F : ∀ (w : World) (mg : Str → Option Value) (h : Heap) (K : PySem.W.Frag), K.In h → h.Ns mainGlobals mg → He.SaysD fa fn K → cs.all (gcB K) = true → ExF K mg nm ts → ∃ fd : FuncData, mg "law" = some (.ref (He.fAd K lawD)) ∧ Fun K "law" "law" st (He.fAd K lawD) fd ∧ (∀ (s : Shared) (u : Value), BindsTo s fd ⟨[u], []⟩ [(p, u)]) ∧
      ∀ (base : Heap) (c T : Addr) (s : Shared) (H : Hp) (Z : Par), Mod K mg base → Room k (callerA.deeper (envOfC "law" (defScope st) s.heap.objs.size (He.fAd K lawD) (.ref c))) → CG (cxOf CX0 l.prog w K mg base N "law" (defScope st) (He.fAd K lawD) (.ref c) callerA [] s H E0).nox → LamX.TabB base mg c T → Z.p = some T →
        PSs (cxOf CX0 l.prog w K mg base N "law" (defScope st) (He.fAd K lawD) (.ref c) callerA [] s H E0).nox (defBody st) (lfS K Z b))
    (T : ∀ ns : List Int, ns.length ≤ n → fnT N qq 1 b [.dict [(.none, .list (ns.map .int))]] = some (.bool true)) :
    PySem.W.WalkO q loose XP (He.hookX m fa fn [] [lawD] (exB cs nm ts)).says l.row.toRowW d [] (fun f vs => PySem.call f vs) := by
  refine Att.attach_call most hdf fun w s₀ s₁ mg mb f o pm cd doc a vs ns G Y _ _ _ hmg hobj hints hlen hg => ?_
  obtain ⟨K, X, Sy⟩ := Y
  have more := Sy.more
  unfold exB at more
  rw [Bool.and_eq_true] at more
  obtain ⟨fd, e, Fn, bt, body⟩ := F w mg _ K X G.T.g Sy.t.d more.1 (exF_of X G.T.g more.2)
  rw [name] at hmg
  obtain rfl : f = He.fAd K lawD := Value.ref.inj (Option.some.inj (hmg.symm.trans e))
  obtain ⟨mm, sees, _⟩ := (G.T.seer alone).mods
  obtain ⟨c, hc⟩ : ∃ c, fd.code = .ref c := by
    obtain ⟨⟨oc, od, kV, doc, pm, an, cdv, ct, osl, e1, lk, hcdv⟩, kp⟩ := Fn
    subst e1
    exact He.codeIn_ref hcdv
  have e2 : He.codeOf K lawD = c := by
    obtain ⟨⟨oc, od, kV, doc, pm, an, cdv, ct, osl, e1, lk, hcdv⟩, kp⟩ := Fn
    exact He.codeOf_eq lk hc
  have in1 : lawD ∈ [lawD] := List.mem_singleton.mpr rfl
  have hd := Sy.hd lawD in1
  have e3 : (He.cT K lawD).1 = c := e2
  rw [e3] at hd
  exact law_hereT X G.T.g G.T.b G.T.builtins G.T.nolimit ⟨mm, sees⟩ hg hobj hints (Nat.le_trans hlen few) room Fn S bt (Sy.empty lawD in1) (Sy.out lawD in1) (PySem.W.codeHd_of_K X hd) hc G.T.bmain len2 (fun base s H Z M r cg tb hz => body base c _ s H Z M r cg tb hz) (T ns hlen)
end Dl

/-! ### texts cut and joined, f-strings, starred displays, a list's own places exchanged -/
namespace Dl
open PySem PySem.Spec PyProof.Rows L2
section
variable {X : Cx} {Z : Par} {M : List Addr} {K : PySem.W.Frag} {o a b e : Expr} {es : List Expr} {pos : Pos} {fo fa fb fe : DE} {ga : DA}
theorem Kq.none {M' : List Addr} {H H' : Hp} {mu : Addr → Prop} (k : Kq Z M H M' H') (hm : ∀ a, Mu Z M a → ∃ o, H' a = some o) {p : Addr} (h : H' p = none) : H p = none := by
  cases q : H p with
  | none => rfl
  | some o =>
    by_cases m : Mu Z M p
    · obtain ⟨u, e⟩ := hm p m
      rw [h] at e; cases e
    · have := (k.kp p o q m).1
      rw [h] at this; cases this
/-- x.split(y), a new list -/
def gSplit : PyData → PyData → Option (List PyData)
  | .str a, .str b => if (b.length == 0) = false ∧ a.length + 2 ≤ sizeLine then some ((Txt.split a b).map .str) else none
  | _, _ => none
theorem gSplit_some {d e : PyData} {ds : List PyData} (h : gSplit d e = some ds) : ∃ a b, d = .str a ∧ e = .str b ∧ (b.length == 0) = false ∧ a.length + 2 ≤ sizeLine ∧ ds = (Txt.split a b).map .str := by
  unfold gSplit at h
  split at h
  · split at h
    · rename_i c
      cases h
      exact ⟨_, _, rfl, rfl, c.1, c.2, rfl⟩
    · cases h
  · cases h
def fSplit (fo fe : DE) : DF := fun s => (fo s).bind fun p => (fe p.2).bind fun q => (gSplit p.1 q.1).map fun ds => (ds, q.2)
theorem fsplit {apos : Pos} (ho : PE X o (lft X.K Z fo)) (he : PE X e (lft X.K Z fe)) (hs : starEach [e] X.env = [(false, eval e X.env)] := by rfl) (hbase : attributeBase o "split" X.env (eval o X.env) = eval o X.env := by rfl) (hline : (apos.endLine == pos.line) = true := by rfl) :
    PE X (.Call (.Attribute o "split" apos) [e] [] pos) (lfF X.K Z (fSplit fo fe)) := PEimp (pe_split ho he hs hbase hline) fun σ H Q h => by
  obtain ⟨M, s, ds, s', rl, hf, k⟩ := h
  unfold fSplit at hf
  simp only [Option.bind_eq_some_iff, Option.map_eq_some_iff] at hf
  obtain ⟨⟨d1, s1⟩, h1, ⟨d2, s2⟩, h2, ds', h3, h4⟩ := hf
  cases h4
  obtain ⟨a, b, e1, e2, c1, c2, rfl⟩ := gSplit_some h3
  have e1' : d1 = .str a := e1
  have e2' : d2 = .str b := e2
  subst e1' e2'
  refine ⟨M, s, .str a, s1, rl, h1, fun v H1 k1 r1 t1 => ⟨⟨a, t1.text⟩, M, s1, .str b, _, r1, h2, fun w H2 k2 r2 t2 => ⟨a, b, t1.text, by rw [t2.text], c1, c2, fun p hp => ?_⟩⟩⟩
  have kk := k1.trans k2
  exact k p _ _ (Kq.none (mu := fun _ => True) kk r2.muT hp) upd_same (kk.trans (kq_grow (grow_new hp))) (r2.addNew hp _) ((dtAll_texts _).mono (kp_addNew hp _))
/-- x.join(ys), ys a list or a tuple of texts -/
def textsD : List PyData → Option (List Str)
  | [] => some []
  | .str x :: r => (textsD r).map (x :: ·)
  | _ :: _ => none
theorem textsD_map : ∀ {ds : List PyData} {xs : List Str}, textsD ds = some xs → ds = xs.map .str
  | [], xs, h => by cases h; rfl
  | d :: r, xs, h => by
    unfold textsD at h
    split at h
    · cases h; simp_all
    · rename_i b r' e
      simp only [Option.map_eq_some_iff] at h
      obtain ⟨bs', h1, h2⟩ := h
      injection e with e1 e2
      subst e1 e2 h2
      rw [List.map_cons, ← textsD_map h1]
    · cases h
theorem textsD_of : ∀ xs : List Str, textsD (xs.map .str) = some xs
  | [] => rfl
  | x :: r => by rw [List.map_cons, textsD, textsD_of r]; rfl
def joinD (a : Str) (ds : List PyData) : Option PyData := (textsD ds).bind fun ys => if (ys.map (·.length)).sum + ys.length * a.length ≤ 16777216 then some (.str (Txt.join a ys)) else none
theorem joinD_some {a : Str} {ds : List PyData} {d : PyData} (h : joinD a ds = some d) : ∃ ys : List Str, ds = ys.map .str ∧ (ys.map (·.length)).sum + ys.length * a.length ≤ 16777216 ∧ d = .str (Txt.join a ys) := by
  unfold joinD at h
  simp only [Option.bind_eq_some_iff] at h
  obtain ⟨ys, h1, h2⟩ := h
  split at h2
  · cases h2
    exact ⟨ys, textsD_map h1, by assumption, rfl⟩
  · cases h2
def gJoin : PyData → PyData → Option PyData
  | .str a, .list ds => joinD a ds
  | .str a, .tuple ds => joinD a ds
  | _, _ => none
theorem djoin {apos : Pos} (ho : PE X o (lft X.K Z fo)) (he : PE X e (lft X.K Z fe)) (hs : starEach [e] X.env = [(false, eval e X.env)] := by rfl) (hbase : attributeBase o "join" X.env (eval o X.env) = eval o X.env := by rfl) (hline : (apos.endLine == pos.line) = true := by rfl) :
    PE X (.Call (.Attribute o "join" apos) [e] [] pos) (lft X.K Z (dOp gJoin fo fe)) := PEimp (pe_join ho he hs hbase hline) fun σ H Q h => by
  obtain ⟨M, s, d, s', rl, hf, k⟩ := h
  obtain ⟨d1, s1, d2, h1, h2, h3⟩ := dOp_some hf
  unfold gJoin at h3
  split at h3
  · obtain ⟨ys, rfl, c, rfl⟩ := joinD_some h3
    refine ⟨M, s, _, s1, rl, h1, fun v H1 k1 r1 t1 => ⟨⟨_, t1.text⟩, M, s1, _, _, r1, h2, fun w H2 k2 r2 t2 => ?_⟩⟩
    obtain ⟨p, xs, rfl, g1, g2⟩ := t2.list
    rw [g2.texts] at g1
    exact ⟨_, p, ys, t1.text, rfl, .inl g1, c, k _ H2 (k1.trans k2) r2 (.str _)⟩
  · obtain ⟨ys, rfl, c, rfl⟩ := joinD_some h3
    refine ⟨M, s, _, s1, rl, h1, fun v H1 k1 r1 t1 => ⟨⟨_, t1.text⟩, M, s1, _, _, r1, h2, fun w H2 k2 r2 t2 => ?_⟩⟩
    obtain ⟨p, xs, rfl, g1, g2⟩ := t2.tuple
    rw [g2.texts] at g1
    exact ⟨_, p, ys, t1.text, rfl, .inr g1, c, k _ H2 (k1.trans k2) r2 (.str _)⟩
  · cases h3
/-- .. of a name's own list -/
def dJoinC (fo : DE) (i : Nat) : DE := fun s => (fo s).bind fun p => (contents p.2 i).bind fun ds => match p.1 with
  | .str a => (joinD a ds).map fun d => (d, p.2)
  | _ => none
theorem djoinC (i : Nat) {apos : Pos} (ho : PE X o (lft X.K Z fo)) (he : PE X e (tVar i)) (hs : starEach [e] X.env = [(false, eval e X.env)] := by rfl) (hbase : attributeBase o "join" X.env (eval o X.env) = eval o X.env := by rfl) (hline : (apos.endLine == pos.line) = true := by rfl) :
    PE X (.Call (.Attribute o "join" apos) [e] [] pos) (lft X.K Z (dJoinC fo i)) := PEimp (pe_join ho he hs hbase hline) fun σ H Q h => by
  obtain ⟨M, s, d, s', rl, hf, k⟩ := h
  unfold dJoinC at hf
  simp only [Option.bind_eq_some_iff] at hf
  obtain ⟨⟨d1, s1⟩, h1, ds, h2, h3⟩ := hf
  dsimp only at h2 h3
  split at h3
  · simp only [Option.map_eq_some_iff] at h3
    obtain ⟨d2, h3, h4⟩ := h3
    cases h4
    obtain ⟨ys, rfl, c, rfl⟩ := joinD_some h3
    refine ⟨M, s, _, _, rl, h1, fun v H1 k1 r1 t1 => ⟨⟨_, t1.text⟩, ?_⟩⟩
    obtain ⟨p, xs, g1, g2, g3, _⟩ := r1.at h2
    rw [g3.texts] at g2
    exact ⟨.ref p, g1, _, p, ys, t1.text, rfl, .inl (.inl (.inl g2)), c, k _ H1 k1 r1 (.str _)⟩
  · cases h3
/-- len(x), x[a:b] of a name's own list -/
def dLenC (i : Nat) : DE := fun s => (contents s i).map fun ds => (.int ds.length, s)
theorem dlenC (i : Nat) {x : Str} {p : Pos} (hg : Gl X x) (hm : X.mg x = none) (hv : bootBuiltins x = some (.builtin "len")) (ha : PE X e (tVar i)) (hn : x ≠ "__name__" := by decide)
    (hdb : (x == ("__debug__" : Str)) = false := by decide) (he : starEach [e] X.env = (false, eval e X.env) :: starEach [] X.env := by rfl) (hpl : (backTo pos (starEach [] X.env)).any (·.1) = false := by rfl) : PE X (.Call (.Name x p) [e] [] pos) (lft X.K Z (dLenC i)) :=
  PEimp (pe_callB call_len hg hm hv (pa_cons ha pa_nil he) hn hdb he hpl) fun σ H Q h => by
    obtain ⟨M, s, d, s', rl, hf, k⟩ := h
    unfold dLenC at hf
    simp only [Option.map_eq_some_iff] at hf
    obtain ⟨ds, h1, h2⟩ := hf
    cases h2
    obtain ⟨p, xs, g1, g2, g3, _⟩ := rl.at h1
    exact ⟨.ref p, g1, _, _, rfl, .inl ⟨xs, .inl (.inl g2), rfl⟩, by rw [g3.len]; exact k _ H (Kq.refl _ _ _) rl (.int _)⟩
def dSlC (i : Nat) (lo hi : DO) : DE := fun s => (contents s i).bind fun _ => (lo s).bind fun q => (hi q.2).bind fun r => (contents r.2 i).map fun ds => (.list (cutD ds q.1 r.1), r.2)
theorem dslC (i : Nat) {lo hi : Option Expr} {flo fhi : DO} {p2 : Pos} (he : PE X e (tVar i)) (hl : PO X lo (lfO X.K Z flo)) (hu : PO X hi (lfO X.K Z fhi)) : PE X (.Subscript e (.Slice lo hi none p2) pos) (lft X.K Z (dSlC i flo fhi)) := PEimp (pe_slice sl_list he hl hu) fun σ H Q h => by
  obtain ⟨M, s, d, s', rl, hf, k⟩ := h
  unfold dSlC at hf
  simp only [Option.bind_eq_some_iff, Option.map_eq_some_iff] at hf
  obtain ⟨ds0, h0, ⟨o1, s2⟩, h2, ⟨o2, s3⟩, h3, ds, h4, h5⟩ := hf
  cases h5
  obtain ⟨p0, xs0, g1, _⟩ := rl.at h0
  refine ⟨.ref p0, g1, M, s, o1, s2, rl, h2, fun H2 k2 r2 => ⟨M, s2, o2, _, r2, h3, fun H3 k3 r3 => ?_⟩⟩
  obtain ⟨p1, xs, e1, e2, e3, _⟩ := r3.at h4
  rw [g1] at e1
  cases e1
  exact ⟨p0, xs, rfl, .inl (.inl e2), fun p hp => k _ _ ((k2.trans k3).trans (kq_grow (grow_new hp))) (r3.grow (grow_new hp)) (dt_newL r3.muT hp (cut_dt e3 _ _))⟩
/-- *e in a display -/
def aStar (f : DE) (g : DA) : DA := fun s => (f s).bind fun p => match p.1 with
  | .list ds => (g p.2).map fun q => (ds ++ q.1, q.2)
  | .tuple ds => (g p.2).map fun q => (ds ++ q.1, q.2)
  | _ => none
theorem dastar {p : Pos} (ha : PE X e (lft X.K Z fa)) (hb : PA X es (lfA X.K Z ga)) (hs : starEach (.Starred e p :: es) X.env = (true, eval e X.env) :: starEach es X.env := by rfl) : PA X (.Starred e p :: es) (lfA X.K Z (aStar fa ga)) := PAimp (StX.pa_star ha hb hs) fun σ H Q h => by
  obtain ⟨M, s, d, s', rl, hf, k⟩ := h
  unfold aStar at hf
  simp only [Option.bind_eq_some_iff] at hf
  obtain ⟨⟨d1, s1⟩, h1, h2⟩ := hf
  dsimp only at h2
  split at h2
  · simp only [Option.map_eq_some_iff] at h2
    obtain ⟨⟨r, s2⟩, h2, h3⟩ := h2
    cases h3
    refine ⟨M, s, _, s1, rl, h1, fun v H1 k1 r1 t1 => ?_⟩
    obtain ⟨p, xs, rfl, g1, g2⟩ := t1.list
    exact ⟨p, xs, rfl, .inr g1, M, s1, r, _, r1, h2, fun ys H2 k2 r2 t2 => k _ H2 (k1.trans k2) r2 ((g2.mono k2.kp).append t2)⟩
  · simp only [Option.map_eq_some_iff] at h2
    obtain ⟨⟨r, s2⟩, h2, h3⟩ := h2
    cases h3
    refine ⟨M, s, _, s1, rl, h1, fun v H1 k1 r1 t1 => ?_⟩
    obtain ⟨p, xs, rfl, g1, g2⟩ := t1.tuple
    exact ⟨p, xs, rfl, .inl g1, M, s1, r, _, r1, h2, fun ys H2 k2 r2 t2 => k _ H2 (k1.trans k2) r2 ((g2.mono k2.kp).append t2)⟩
  · cases h2
/-- f'..' -/
def gFmt : PyData → Option PyData
  | .str y => if y.length ≤ sizeLine then some (.str y) else none
  | .int i => if i.natAbs.log2 < 1920 then some (.str (toString i)) else none
  | _ => none
theorem dfmt (he : PE X e (lft X.K Z fe)) : PE X (.FormattedValue e (-1) none pos) (lft X.K Z (dUn gFmt fe)) := PEimp (pe_fmt he) fun σ H Q h => by
  obtain ⟨M, s, d, s', rl, hf, k⟩ := h
  obtain ⟨d1, h1, h3⟩ := dUn_some hf
  unfold gFmt at h3
  split at h3
  · split at h3
    · cases h3
      exact ⟨M, s, _, s', rl, h1, fun v H1 k1 r1 t1 => .inl ⟨_, t1.text, by assumption, k _ H1 k1 r1 (.str _)⟩⟩
    · cases h3
  · split at h3
    · cases h3
      exact ⟨M, s, _, s', rl, h1, fun v H1 k1 r1 t1 => .inr ⟨_, t1.inti, by assumption, k _ H1 k1 r1 (.str _)⟩⟩
    · cases h3
  · cases h3
def runJs : List DE → Str → Sl → Option (Str × Sl)
  | [], acc, s => some (acc, s)
  | f :: fs, acc, s => (f s).bind fun p => match p.1 with
    | .str y => if (acc ++ y).length ≤ sizeLine then runJs fs (acc ++ y) p.2 else none
    | _ => none
def dJs (fs : List DE) : DE := fun s => (runJs fs Str.empty s).map fun p => (.str p.1, p.2)
theorem lift_js : ∀ (fs : List DE) (acc : Str) {M : List Addr} {σ : L2.St} {H : Hp} {s s' : Sl} {out : Str} {Q : Str → Hp → Prop}, Rel K Z M σ H s → runJs fs acc s = some (out, s') → (∀ H', Kq Z M H M H' → Rel K Z M σ H' s' → Q out H') → tJs (fs.map (lft K Z)) acc σ H Q
  | [], acc, M, σ, H, s, s', out, Q, rl, e, k => by
    cases e
    exact k H (Kq.refl _ _ _) rl
  | f :: fs, acc, M, σ, H, s, s', out, Q, rl, e, k => by
    unfold runJs at e
    simp only [Option.bind_eq_some_iff] at e
    obtain ⟨⟨d, s1⟩, e1, e2⟩ := e
    dsimp only at e2
    split at e2
    · split at e2
      · exact ⟨M, s, _, s1, rl, e1, fun v H1 k1 r1 t1 => ⟨_, t1.text, by assumption, lift_js fs _ r1 e2 fun H2 k2 r2 => k H2 (k1.trans k2) r2⟩⟩
      · cases e2
    · cases e2
theorem djs {v1 v2 : Expr} {rest : List Expr} {fs : List DE} (h : PJ X (v1 :: v2 :: rest) (fs.map (lft X.K Z))) : PE X (.JoinedStr (v1 :: v2 :: rest) pos) (lft X.K Z (dJs fs)) := PEimp (pe_joined h) fun σ H Q h => by
  obtain ⟨M, s, d, s', rl, hf, k⟩ := h
  unfold dJs at hf
  simp only [Option.map_eq_some_iff] at hf
  obtain ⟨⟨out, s1⟩, h1, h2⟩ := hf
  cases h2
  exact lift_js fs Str.empty rl h1 fun H1 k1 r1 => k _ H1 k1 r1 (.str _)
theorem nmd_of {K : PySem.W.Frag} {mg : Str → Option Value} {nm ts : List Str} (Fx : ExF K mg nm ts) : Nmd K mg nm := fun c hc => Fx.at_ c (List.mem_cons_of_mem _ (List.mem_append_left _ hc))
theorem wordOf_in {nm : List Str} {n : Nat} {b : DS} {c w : Str} (h : wordOf nm n b (some c) = some w) : c ∈ nm := by
  unfold wordOf at h
  dsimp only at h
  split at h
  · assumption
  · cases h
/-! str(..), int(..) -/
def gStr1 : List PyData → Option PyData
  | [.int i] => if i.natAbs.log2 < 1920 then some (.str (toString i)) else none
  | [.str x] => some (.str x)
  | _ => none
def rStr1 : List V → Hp → VK → Prop := fun xs H Q => (∃ i : Int, xs = [.int i] ∧ i.natAbs.log2 < 1920 ∧ Q (.str (toString i)) H) ∨ ∃ a, xs = [.str a] ∧ Q (.str a) H
theorem call_str1 : CallR X (.type "str") rStr1 := CallR.or call_str_int SkE.call_str_str
theorem ok_str1 : CallOk K rStr1 gStr1 := fun mu H xs ds d Q hm t e k => by
  unfold gStr1 at e
  split at e
  · split at e
    case isFalse => cases e
    obtain ⟨x, rfl, t1⟩ := one_of t
    cases e
    exact .inl ⟨_, by rw [t1.inti], by assumption, k _ H (fun _ _ z => z) (.str _)⟩
  · obtain ⟨x, rfl, t1⟩ := one_of t
    cases e
    exact .inr ⟨_, by rw [t1.text], k _ H (fun _ _ z => z) (.str _)⟩
  · cases e
def gIntA : List PyData → Option PyData
  | [.int i] => some (.int i)
  | [.bool b] => some (.int (if b then 1 else 0))
  | [.str x] => if x.length ≤ 640 then (PySem.intText? x).map .int else none
  | _ => none
def rIntA : List V → Hp → VK → Prop := fun xs H Q => ((∃ i, xs = [.int i] ∧ Q (.int i) H) ∨ ∃ k, xs = [.bl k] ∧ Q (.int (if k then 1 else 0)) H) ∨ ∃ a n, xs = [.str a] ∧ PySem.intText? a = some n ∧ a.length ≤ 640 ∧ Q (.int n) H
theorem call_intA : CallR X (.type "int") rIntA := CallR.or call_int1 call_int_str
theorem ok_intA : CallOk K rIntA gIntA := fun mu H xs ds d Q hm t e k => by
  unfold gIntA at e
  split at e
  · obtain ⟨x, rfl, t1⟩ := one_of t
    cases e
    exact .inl (.inl ⟨_, by rw [t1.inti], k _ H (fun _ _ z => z) (.int _)⟩)
  · obtain ⟨x, rfl, t1⟩ := one_of t
    cases e
    exact .inl (.inr ⟨_, by rw [t1.bool], k _ H (fun _ _ z => z) (.int _)⟩)
  · split at e
    case isFalse => cases e
    obtain ⟨x, rfl, t1⟩ := one_of t
    simp only [Option.map_eq_some_iff] at e
    obtain ⟨n, e1, e2⟩ := e
    cases e2
    exact .inr ⟨_, n, by rw [t1.text], e1, by assumption, k _ H (fun _ _ z => z) (.int _)⟩
  · cases e
/-! x[a], x[b] = e, f -/
def sSwp (i : Nat) (f1 f2 k1 k2 : DE) : DS := fun s => (f1 s).bind fun p1 => (f2 p1.2).bind fun p2 => (contents p2.2 i).bind fun _ => (k1 p2.2).bind fun q1 => (contents q1.2 i).bind fun ds1 => match q1.1 with
  | .int n1 => (ixN ds1.length n1).bind fun j1 => (k2 (setC q1.2 i (ds1.set j1 p1.1))).bind fun q2 => (contents q2.2 i).bind fun ds2 => match q2.1 with
    | .int n2 => (ixN ds2.length n2).map fun j2 => .nx (setC q2.2 i (ds2.set j2 p2.1))
    | _ => none
  | _ => none
theorem sswp (i : Nat) {a1 a2 e1 e2 c1 c2 : Expr} {p1 p2 pt pt2 : Pos} {kt kt2 : Nat} {f1 f2 g1 g2 : DE} (hc : X.calm = true) (h1 : PE X e1 (lft X.K Z f1)) (h2 : PE X e2 (lft X.K Z f2)) (ha1 : PE X a1 (tVar i)) (ha2 : PE X a2 (tVar i)) (hc1 : PE X c1 (lft X.K Z g1)) (hc2 : PE X c2 (lft X.K Z g2))
    (h4 : ∀ v, assign (.Subscript a1 c1 p1) X.env v = (do
      let ov ← holding [v] (eval a1 X.env)
      let iv ← holding [v, ov] (eval c1 X.env)
      standAt p1
      holding [v, ov, iv] (setItem ov iv v)
      release [v, ov, iv] []) := by intro _; rfl)
    (h5 : ∀ v, assign (.Subscript a2 c2 p2) X.env v = (do
      let ov ← holding [v] (eval a2 X.env)
      let iv ← holding [v, ov] (eval c2 X.env)
      standAt p2
      holding [v, ov, iv] (setItem ov iv v)
      release [v, ov, iv] []) := by intro _; rfl)
    (hs1 : starEach [e1, e2] X.env = (false, eval e1 X.env) :: starEach [e2] X.env := by rfl) (hs2 : starEach [e2] X.env = (false, eval e2 X.env) :: starEach [] X.env := by rfl)
    (hs : swapsWithSole [.Tuple [.Subscript a1 c1 p1, .Subscript a2 c2 p2] kt pt] (.Tuple [e1, e2] kt2 pt2) pos.line X.env = pure false := by rfl) (hw : swappedStores [.Tuple [.Subscript a1 c1 p1, .Subscript a2 c2 p2] kt pt] (.Tuple [e1, e2] kt2 pt2) X.env = pure none := by rfl)
    (h6 : (assignEach [.Tuple [.Subscript a1 c1 p1, .Subscript a2 c2 p2] kt pt] X.env).map (·.2) = [assign (.Tuple [.Subscript a1 c1 p1, .Subscript a2 c2 p2] kt pt) X.env] := by rfl) (hn : (assignEach [.Subscript a1 c1 p1, .Subscript a2 c2 p2] X.env).length = 2 := by rfl) :
    PS X (.Assign [.Tuple [.Subscript a1 c1 p1, .Subscript a2 c2 p2] kt pt] (.Tuple [e1, e2] kt2 pt2) pos) (lfS X.K Z (sSwp i f1 f2 g1 g2)) :=
  PSimp (ps_asg (pe_tup (pa_cons h1 (pa_cons h2 pa_nil hs2) hs1)) (pg_tup hc (pgs_cons (pg_sub ha1 hc1 set_list h4) (pgs_cons (pg_sub ha2 hc2 set_list h5) pgs_nil))) hs hw h6) fun D σ H h => by
    obtain ⟨M, s, fl, rl, hf, k⟩ := h
    unfold sSwp at hf
    simp only [Option.bind_eq_some_iff] at hf
    obtain ⟨⟨d1, s1⟩, e1, ⟨d2, s2⟩, e2, ds0, e3, ⟨q1, s3⟩, e4, ds1, e5, hf⟩ := hf
    dsimp only at e2 e3 e4 e5 hf
    split at hf
    case h_2 => cases hf
    rename_i n1
    simp only [Option.bind_eq_some_iff] at hf
    obtain ⟨j1, e6, ⟨q2, s4⟩, e7, ds2, e8, hf⟩ := hf
    dsimp only at e8 hf
    split at hf
    case h_2 => cases hf
    rename_i n2
    simp only [Option.map_eq_some_iff] at hf
    obtain ⟨j2, e9, e10⟩ := hf
    cases e10
    refine ⟨M, s, d1, s1, rl, e1, fun v1 H1 k1 r1 t1 => ⟨M, s1, d2, s2, r1, e2, fun v2 H2 k2 r2 t2 => ⟨by show 2 ≤ sizeLine; decide, fun p hp => ?_⟩⟩⟩
    have r2' := r2.grow (grow_new (o := .tup [v1, v2]) hp)
    have kn : Kq Z M H2 M (upd H2 p (.tup [v1, v2])) := kq_grow (grow_new hp)
    refine ⟨p, [v1, v2], rfl, .inl (.inl upd_same), by rw [hn]; rfl, v1, [v2], rfl, ?_⟩
    obtain ⟨a0, xs0, g1, _⟩ := r2'.at e3
    refine ⟨.ref a0, g1, M, s2, .int n1, s3, r2', e4, fun w H3 k3 r3 t3 => ?_⟩
    obtain ⟨a1, xs, g3, g4, g5, g6, up⟩ := r3.at e5
    rw [g1] at g3
    cases g3
    refine ⟨a0, xs, n1, j1, rfl, t3.inti, g4, by rw [g5.len]; exact e6, ?_⟩
    have kk : Kp (Mu Z M) H3 (Mu Z M) (upd H3 a0 (.lst (xs.set j1 v1))) := fun b o e n => ⟨upd_lst b o e (fun z => n (by subst z; assumption)), n⟩
    have t1' := t1.mono (k2.trans (kn.trans k3)).kp
    have t2' := t2.mono (kn.trans k3).kp
    obtain ⟨r4, k4⟩ := up (upd H3 a0 (.lst (xs.set j1 v1))) (xs.set j1 v1) (ds1.set j1 d1) upd_same upd_lst ((DtAll.set t1' j1 g5).mono kk)
    refine ⟨v2, [], rfl, ?_⟩
    refine ⟨.ref a0, g1, M, _, .int n2, s4, r4, e7, fun w2 H5 k5 r5 t5 => ?_⟩
    obtain ⟨a3, ys, g7, g8, g9, g10, up2⟩ := r5.at e8
    rw [g1] at g7
    cases g7
    refine ⟨a0, ys, n2, j2, rfl, t5.inti, g8, by rw [g9.len]; exact e9, ?_⟩
    have kk2 : Kp (Mu Z M) H5 (Mu Z M) (upd H5 a0 (.lst (ys.set j2 v2))) := fun b o e n => ⟨upd_lst b o e (fun z => n (by subst z; assumption)), n⟩
    obtain ⟨r6, k6⟩ := up2 (upd H5 a0 (.lst (ys.set j2 v2))) (ys.set j2 v2) (ds2.set j2 d2) upd_same upd_lst ((DtAll.set (t2'.mono (k4.trans k5).kp) j2 g9).mono kk2)
    exact ⟨rfl, k M σ _ (k1.trans (k2.trans (kn.trans (k3.trans (k4.trans (k5.trans k6)))))) r6⟩
end
end Dl

/-! ### sum, least of a list; a tuple some times -/
namespace Dl
open PySem PySem.Spec PyProof.Rows L2
def intsD : List PyData → Option (List Int)
  | [] => some []
  | .int i :: r => (intsD r).map (i :: ·)
  | _ => none
theorem intsD_map : ∀ {ds : List PyData} {ns : List Int}, intsD ds = some ns → ds = ns.map .int
  | [], ns, h => by cases h; rfl
  | d :: r, ns, h => by
    unfold intsD at h
    split at h
    · rename_i q; cases q
    · rename_i i r' q
      cases q
      simp only [Option.map_eq_some_iff] at h
      obtain ⟨ms, h1, rfl⟩ := h
      rw [intsD_map h1]
      rfl
    · cases h
def gSum : List PyData → Option PyData
  | [.list ds] => (intsD ds).map fun ns => .int ns.sum
  | _ => none
def least : List Int → Int → Int
  | [], m => m
  | n :: r, m => least r (if n < m then n else m)
theorem least_mem : ∀ (r : List Int) (m : Int), least r m = m ∨ least r m ∈ r
  | [], m => .inl rfl
  | n :: r, m => by
    rw [least]
    rcases least_mem r (if n < m then n else m) with h | h
    · rw [h]
      by_cases c : n < m
      · rw [if_pos c]; exact .inr List.mem_cons_self
      · rw [if_neg c]; exact .inl rfl
    · exact .inr (List.mem_cons_of_mem _ h)
theorem least_le : ∀ (r : List Int) (m : Int), least r m ≤ m ∧ ∀ y ∈ r, least r m ≤ y
  | [], m => ⟨Int.le_refl _, fun _ h => by cases h⟩
  | n :: r, m => by
    obtain ⟨h1, h2⟩ := least_le r (if n < m then n else m)
    rw [least]
    have h3 : (if n < m then n else m) ≤ m ∧ (if n < m then n else m) ≤ n := by split <;> omega
    refine ⟨by omega, fun y hy => ?_⟩
    rcases List.mem_cons.mp hy with rfl | q
    · omega
    · exact h2 y q
/-- min(i, j), min(xs) -/
def gMin : List PyData → Option PyData
  | [.int i, .int j] => some (.int (if j < i then j else i))
  | [.list ds] => (intsD ds).bind fun ns => match ns with
    | [] => none
    | n :: r => some (.int (least r n))
  | _ => none
/-- numbers; a tuple some times -/
def gMulA : PyData → PyData → Option PyData
  | .tuple ds, .int n => if (ds ≠ [] ∧ ds.length ≤ 1000) ∧ 2 ≤ n ∧ n ≤ 1000 then some (.tuple (List.replicate n.toNat ds).flatten) else none
  | d, e => gMul d e
section
variable {X : Cx} {K : PySem.W.Frag}
theorem ok_sum : CallOk K (rSum K) gSum := fun mu H xs ds d Q hm t e k => by
  unfold gSum at e
  split at e
  · obtain ⟨x, rfl, t1⟩ := one_of t
    simp only [Option.map_eq_some_iff] at e
    obtain ⟨ns, e1, e2⟩ := e
    cases e2
    obtain ⟨a, xs, rfl, h1, u1⟩ := t1.list
    rw [intsD_map e1] at u1
    rw [u1.ints] at h1
    exact ⟨a, ns, rfl, h1, k _ H (fun _ _ z => z) (.int _)⟩
  · cases e
def rMinA (K : PySem.W.Frag) : List V → Hp → VK → Prop := fun xs H Q => (∃ i j, xs = [.int i, .int j] ∧ Q (.int (if j < i then j else i)) H) ∨ rMin K xs H Q
theorem call_minA (hc : X.calm = true) : CallR X (.builtin "min") (rMinA X.K) := fun pins s σ H xs us Q I r h =>
  h.elim (fun h => call_min2 hc pins s σ H xs us Q I r h) fun h => cr_min hc pins s σ H xs us Q I r h
theorem ok_minA : CallOk K (rMinA K) gMin := fun mu H xs ds d Q hm t e k => by
  unfold gMin at e
  split at e
  · obtain ⟨x, y, rfl, t1, u⟩ := two_of t
    cases e
    exact .inl ⟨_, _, by rw [t1.inti, u.inti], k _ H (fun _ _ z => z) (.int _)⟩
  · obtain ⟨x, rfl, t1⟩ := one_of t
    simp only [Option.bind_eq_some_iff] at e
    obtain ⟨ns, e1, e2⟩ := e
    cases ns with
    | nil => cases e2
    | cons n r =>
    cases e2
    obtain ⟨a, xs, rfl, h1, u1⟩ := t1.list
    rw [intsD_map e1] at u1
    rw [u1.ints] at h1
    refine .inr ⟨a, n :: r, rfl, h1, by simp, fun m hm2 hle => ?_⟩
    have l := least_le r n
    have e3 : m = least r n := by
      have q1 : least r n ≤ m := by
        rcases List.mem_cons.mp hm2 with rfl | z
        · exact l.1
        · exact l.2 m z
      have q2 : m ≤ least r n := by
        rcases least_mem r n with z | z
        · rw [z]; exact hle n List.mem_cons_self
        · exact hle _ (List.mem_cons_of_mem _ z)
      omega
    subst e3
    exact k _ H (fun _ _ z => z) (.int _)
  · cases e
theorem dt_rep {mu : Addr → Prop} {H : Hp} {xs : List V} {ds : List PyData} (t : DtAll K mu H xs ds) : ∀ m : Nat, DtAll K mu H (List.replicate m xs).flatten (List.replicate m ds).flatten
  | 0 => .nil
  | m + 1 => by
    rw [List.replicate_succ, List.replicate_succ, List.flatten_cons, List.flatten_cons]
    exact t.append (dt_rep t m)
def rMulA (K : PySem.W.Frag) : R2 := fun x y H Q => rI CMulW (fun i j => .int (i * j)) x y H Q ∨ rRepT K x y H Q
theorem op_mulA : OpR X (binaryOp .Mult) (rMulA X.K) := OpR.or op_mulW op_repT
theorem ok_mulA : OpOk K (rMulA K) gMulA := fun mu H x y d1 d2 d Q hm t1 t2 e k => by
  unfold gMulA at e
  split at e
  · rename_i ds n
    split at e
    case isFalse => cases e
    rename_i hc
    cases e
    obtain ⟨a, xs, rfl, h1, u1⟩ := t1.tuple
    refine .inr ⟨a, n, xs, rfl, t2.inti, h1, fun z => hc.1.1 ?_, hc.2.1, hc.2.2, by rw [u1.len]; exact hc.1.2, fun p hp => k _ _ (grow_new hp) (dt_newT hm hp (dt_rep u1 _))⟩
    subst z
    cases u1
    rfl
  · exact .inl (ok_mul mu H x y d1 d2 d Q hm t1 t2 e k)
end
end Dl

/-! ### a list taken apart, a while that may raise, list and text some times, a list of one's own compared -/
namespace Dl
open PySem PySem.Spec PyProof.Rows L2
/-- a list into as many names -/
def tgL (gs : List (PyData → Sl → Option Sl)) : PyData → Sl → Option Sl := fun d s => match d with
  | .list ds => tgTs gs ds s
  | _ => none
theorem tgl {K : PySem.W.Frag} {n : Nat} {gs : TGs} {gds : List (PyData → Sl → Option Sl)} (hn : n = gds.length) (hs : TgsOk K gs (tgTs gds)) : TgOk K (gLst K n gs) (tgL gds) := fun Z M σ H s s' x d Q r t e k => by
  unfold tgL at e
  split at e
  · rename_i ds
    obtain ⟨a, xs, rfl, h1, h2⟩ := t.list
    exact ⟨a, xs, rfl, h1, by rw [h2.len, tgTs_len e, hn], hs Z M σ H s s' xs ds Q r h2 e k⟩
  · cases e
/-- while, the body may raise -/
def xsWhile (t : DT) (b : DSx) : Nat → DSx
  | 0 => fun _ => none
  | n + 1 => fun s => (t s).bind fun p => if p.1 = true then (b p.2).bind fun r => match r with
      | .ex c s' => some (.ex c s')
      | .fl (.nx s') => xsWhile t b n s'
      | .fl (.ct s') => xsWhile t b n s'
      | .fl (.bk s') => some (.fl (.nx s'))
      | .fl (.rt d s') => some (.fl (.rt d s'))
    else some (.fl (.nx p.2))
section
variable {X : Cx} {Z : Par} {W : WX} {a b e : Expr} {es : List Expr} {pos : Pos} {fa fb fc : DE} {f : DSx} {t : DT}
theorem lift_xwhile {n : Nat} {D : Ends} {σ : L2.St} {H : Hp} (h : lfSx X.K X.mg Z W (xsWhile t f n) D σ H) : tWhile (lfT X.K Z t) (lfSx X.K X.mg Z W f) D σ H := by
  obtain ⟨M, s, r, rl, hf, k⟩ := h
  refine ⟨fun m σ' H' => ∃ M' s', Kq Z M H M' H' ∧ Rel X.K Z M' σ' H' s' ∧ xsWhile t f m s' = some r, ⟨n, M, s, Kq.refl _ _ _, rl, hf⟩, ?_⟩
  rintro m σ' H' ⟨M', s', k2, r2, h3⟩
  cases m with
  | zero => cases h3
  | succ m =>
    unfold xsWhile at h3
    simp only [Option.bind_eq_some_iff] at h3
    obtain ⟨⟨b1, s1⟩, e1, h4⟩ := h3
    dsimp only at h4
    refine ⟨M', s', b1, s1, r2, e1, fun H1 k1 r1 => ?_⟩
    cases b1 with
    | true =>
      rw [if_pos rfl]
      rw [if_pos rfl] at h4
      simp only [Option.bind_eq_some_iff] at h4
      obtain ⟨fl1, e2, h5⟩ := h4
      refine ⟨fun σ3 H3 => ∃ M3 s3, Kq Z M H M3 H3 ∧ Rel X.K Z M3 σ3 H3 s3 ∧ xsWhile t f m s3 = some r, fun σ3 H3 q => ⟨m, Nat.lt_succ_self _, q⟩, ?_⟩
      refine ⟨M', s1, fl1, r1, e2, ?_⟩
      have kk : Kq Z M H M' H1 := k2.trans k1
      match fl1, h5 with
      | .ex c s4, h5 => cases h5; exact ExAt.mono kk k
      | .fl (.nx s4), h5 => exact fun M4 σ4 H4 k4 r4 => ⟨M4, s4, kk.trans k4, r4, h5⟩
      | .fl (.ct s4), h5 => exact fun M4 σ4 H4 k4 r4 => ⟨M4, s4, kk.trans k4, r4, h5⟩
      | .fl (.bk s4), h5 => cases h5; exact fun M4 σ4 H4 k4 r4 => k M4 σ4 H4 (kk.trans k4) r4
      | .fl (.rt d4 s4), h5 => cases h5; exact fun M4 σ4 H4 v4 k4 r4 t4 => k M4 σ4 H4 v4 (kk.trans k4) r4 t4
    | false =>
      rw [if_neg Bool.false_ne_true]
      rw [if_neg Bool.false_ne_true] at h4
      cases h4
      exact k M' σ' H1 (k2.trans k1) r1
theorem xswhile (n : Nat) {c : Expr} {body : List Stmt} (hp : PassesOwn (model X.prog X.w) X.A X.env X.xe) (hc : PT X c (lfT X.K Z t)) (hb : PSs X body (lfSx X.K X.mg Z W f)) : PS X (.While c body [] pos) (lfSx X.K X.mg Z W (xsWhile t f n)) :=
  PSimp (ps_while hp hc hb) fun _ _ _ h => lift_xwhile h
/-- a list of one's own, on the left of a comparison -/
def dOpC (g : PyData → PyData → Option PyData) (i : Nat) (fb : DE) : DE := fun s => (contents s i).bind fun _ => (fb s).bind fun q => (contents q.2 i).bind fun ds => (g (.list ds) q.1).bind fun d => match d with
  | .bool b => some (.bool b, q.2)
  | _ => none
theorem lift_opC {r : R2} {g : PyData → PyData → Option PyData} (ok : OpOk X.K r g) {i : Nat} {σ : L2.St} {H : Hp} {Q : VK} (h : lft X.K Z (dOpC g i fb) σ H Q) : tOp r (tVar i) (lft X.K Z fb) σ H Q := by
  obtain ⟨M, s, d, s', rl, hf, k⟩ := h
  unfold dOpC at hf
  simp only [Option.bind_eq_some_iff] at hf
  obtain ⟨ds0, h0, ⟨d2, s2⟩, h1, ds, h2, d3, h3, h4⟩ := hf
  dsimp only at h2 h3 h4
  obtain ⟨a0, xs0, e0, _⟩ := rl.at h0
  refine ⟨.ref a0, e0, M, s, d2, s2, rl, h1, fun v H1 k1 r1 t1 => ?_⟩
  obtain ⟨a1, xs, e1, e2, e3, e4, _⟩ := r1.at h2
  rw [e0] at e1
  cases e1
  have kk : Kp (Mu Z M) H1 (fun b => Mu Z M b ∧ b ≠ a0) H1 := fun b o e n => ⟨e, fun z => n z.1⟩
  refine ok (fun b => Mu Z M b ∧ b ≠ a0) H1 (.ref a0) v (.list ds) d2 d3 Q (fun b hb => r1.muT b hb.1) (.lst (.inl e2) (fun z => z.2 rfl) (e3.mono kk)) (t1.mono kk) h3 fun v2 H2 g2 t2 => ?_
  split at h4
  · cases h4
    rw [t2.bool]
    exact k _ H2 (k1.trans (kq_grow g2)) (r1.grow g2) (.bl _)
  · cases h4
theorem dcmpC {op : CmpOp} {r : R2} {g : PyData → PyData → Option PyData} (i : Nat) (ho : OpR X (compareOp op) r) (ok : OpOk X.K r g) (ha : PE X a (tVar i)) (hb : PE X b (lft X.K Z fb)) (hm : behindInMarks op b = false) : PE X (.Compare a [op] [b] pos) (lft X.K Z (dOpC g i fb)) :=
  PEimp (pe_cmpR ho ha hb hm) fun _ _ _ h => lift_opC ok h
theorem dtcmpC {op : CmpOp} {r : R2} {g : PyData → PyData → Option PyData} (i : Nat) (ho : OpR X (compareOp op) r) (ok : OpOk X.K r g) (ha : PE X a (tVar i)) (hb : PE X b (lft X.K Z fb)) (hm : behindInMarks op b = false) : PT X (.Compare a [op] [b] pos) (lfT X.K Z (dTst (dOpC g i fb))) :=
  PTimp (pt_cmpR ho ha hb hm) fun σ H Q h => by
    obtain ⟨M, s, b, s', rl, hf, k⟩ := h
    exact lift_opC ok ⟨M, s, .bool b, s', rl, dTst_some hf, fun v H' k1 r1 t1 => ⟨b, t1.bool, k H' k1 r1⟩⟩
end
section
variable {X : Cx} {K : PySem.W.Frag}
/-- a list that is read, some times -/
def rRepL (K : PySem.W.Frag) : R2 := fun x y H Q => ∃ l k xs, x = .ref l ∧ y = .int k ∧ Rd H l (.lst xs) ∧ -(2 ^ 63) ≤ k ∧ k < 2 ^ 63 ∧ xs.length * k.toNat ≤ sizeLine ∧
  ∀ p, H p = none → Q (.ref p) (upd H p (.lst (List.replicate k.toNat xs).flatten))
theorem op_repL : OpR X (binaryOp .Mult) (rRepL X.K) := by
  intro pins s σ H x y v u Q I rx ry h
  obtain ⟨l, k, xs, rfl, rfl, hH, h1, h2, hz, q⟩ := h
  cases rx
  obtain ⟨t, rfl⟩ := ry
  obtain ⟨z, its, n, r, e⟩ := hH.ok I.hok
  have hl := r.length
  have hlen : its.toArray.size * k.toNat ≤ sizeLine := by rw [List.size_toArray, ← hl]; exact hz
  have hcap : ¬ its.toArray.size * k.toNat > (2 ^ 63 - 1) / 8 := by
    have : (sizeLine : Nat) ≤ (2 ^ 63 - 1) / 8 := by decide
    omega
  have hfit : ¬ (!Builtin.List.listFitsIndex k) = true := by
    rw [fitsIndex_both h1 h2]
    exact Bool.false_ne_true
  have hlong : ¬ Builtin.List.listTooLong (its.toArray.size * k.toNat) = true := by
    rw [notLongL hlen]
    exact Bool.false_ne_true
  have hnew : List.foldl (fun x1 x2 => x1 ++ x2) #[] (List.replicate (if its.toArray.isEmpty = true then 0 else k.toNat) its.toArray) = (List.replicate k.toNat its).flatten.toArray := by
    have f0 : ∀ m : Nat, List.foldl (fun x1 x2 => x1 ++ x2) #[] (List.replicate m its.toArray) = (List.replicate m its).flatten.toArray := fun m => by
      have := foldl_rep its m []
      rw [List.nil_append] at this
      exact this
    rw [f0]
    cases its with
    | nil => simp
    | cons a r' => rw [if_neg (by simp)]
  refine wpAny_binaryOp_repeat_ref (T := "list") (U := "int") (by decide) ⟨_, e, rfl⟩ (fun s' => typeIs_int s' k t) noFill_list_mul F.fills_int_mul F.slot_int_rmul repeat_list F.slot_int_index.lookup
    (call_meets F.slot_int_rmul (typeIs_int s k t) F.entry_int_rmul (F.args_int_rmul_2 _ _) (int___rmul___int_list k t l its.toArray n)
      ⟨e, rfl, ⟨_, e, rfl⟩, call_meets F.slot_list_mul ⟨_, e, rfl⟩ F.entry_list_mul (F.args_list_mul_2 _ _) (AutoListH.list___mul___list_int_3 l its.toArray n k t hfit hcap hlong) ⟨e, ?_⟩⟩)
  rw [hnew]
  exact ⟨.ref _, _, I.lnew (t' := s.toks) (r.rep k.toNat) (by rw [PyProof.Rows.lm_len_rep_flat, Nat.mul_comm]; exact hz), rfl, q _ I.fresh⟩
/-- a text some times, twice at least -/
def repS (x : Str) (n : Nat) : Str := ⟨(List.replicate n x.cps).foldl (· ++ ·) #[]⟩
def rRepS : R2 := fun x y H Q => ∃ z k, x = .str z ∧ y = .int k ∧ 2 ≤ k ∧ k < 1000 ∧ 1 ≤ z.length ∧ z.length ≤ 1000 ∧ Q (.str (repS z k.toNat)) H
theorem op_repS : OpR X (binaryOp .Mult) rRepS := by
  intro pins s σ H x y v u Q I rx ry h
  obtain ⟨z, k, rfl, rfl, h1, h2, h3, h4, q⟩ := h
  obtain ⟨t, rfl⟩ := rx
  obtain ⟨t', rfl⟩ := ry
  have n1 : ¬ k < 1 := by omega
  have n2 : (k == 1 || z.length == 0) = false := by
    rw [Bool.or_eq_false_iff]
    exact ⟨beq_eq_false_iff_ne.mpr (by omega), beq_eq_false_iff_ne.mpr (by omega)⟩
  have n3 : z.length * k.toNat ≤ 1000 * 1000 := Nat.mul_le_mul h4 (by omega)
  have n4 : Builtin.Str.tooLong (z.length * k.toNat) = false := by
    unfold Builtin.Str.tooLong
    have : (sizeLine : Nat) ≥ 1000 * 1000 := by decide
    simp only [decide_eq_false_iff_not]
    omega
  refine PySem.P.mul_str (by
    have a1 : ¬ k < -(2 ^ 63 : Int) := by omega
    have a2 : ¬ k ≥ 2 ^ 63 := by omega
    rw [decide_eq_false a1, decide_eq_false a2]; rfl) (fun _ _ => ?_) (fun _ _ => n4) ?_
  · have : (1000 : Int) ≤ (2 ^ 63 - 1) / k := by
      rw [Int.le_ediv_iff_mul_le (by omega)]
      omega
    omega
  · rw [if_neg n1, n2, if_neg Bool.false_ne_true]
    exact ⟨fits_reps n4, .str _, H, I.tok _, ⟨_, rfl⟩, q⟩
/-- what of the two is defined -/
def gMulB : PyData → PyData → Option PyData
  | .list ds, .int n => if (-(2 ^ 63) ≤ n ∧ n < 2 ^ 63) ∧ ds.length * n.toNat ≤ sizeLine then some (.list (List.replicate n.toNat ds).flatten) else none
  | .str z, .int n => if (2 ≤ n ∧ n < 1000) ∧ 1 ≤ z.length ∧ z.length ≤ 1000 then some (.str (repS z n.toNat)) else none
  | d, e => gMul d e
def rMulB (K : PySem.W.Frag) : R2 := fun x y H Q => (rI CMulW (fun i j => .int (i * j)) x y H Q ∨ rRepL K x y H Q) ∨ rRepS x y H Q
theorem op_mulB : OpR X (binaryOp .Mult) (rMulB X.K) := OpR.or (OpR.or op_mulW op_repL) op_repS
theorem ok_mulB : OpOk K (rMulB K) gMulB := fun mu H x y d1 d2 d Q hm t1 t2 e k => by
  unfold gMulB at e
  split at e
  · rename_i ds n
    split at e
    case isFalse => cases e
    rename_i hc
    cases e
    obtain ⟨a, xs, rfl, h1, u1⟩ := t1.listR
    exact .inl (.inr ⟨a, n, xs, rfl, t2.inti, h1, hc.1.1, hc.1.2, by rw [u1.len]; exact hc.2, fun p hp => k _ _ (grow_new hp) (dt_newL hm hp (dt_rep u1 _))⟩)
  · rename_i z n
    split at e
    case isFalse => cases e
    rename_i hc
    cases e
    exact .inr ⟨z, n, t1.text, t2.inti, hc.1.1, hc.1.2, hc.2.1, hc.2.2, k _ H (fun _ _ z => z) (.str _)⟩
  · exact .inl (.inl (ok_mul mu H x y d1 d2 d Q hm t1 t2 e k))
end
section
variable {P : Program} {w : World} {K : PySem.W.Frag} {mg : Str → Option Value} {base : Heap}
theorem Std.noneX {x : Str} {st : Stmt} {ps : List Str} (c : Std K mg x st ps) (k : Nat) : CalX P w K mg base k x ps (spX K mg fun _ => none) := by
  obtain ⟨f, fd, F, hm, hb⟩ := c
  refine ⟨f, fd, ⟨fun vs H Q E h => ?_, fun A outer s H args us vs Q E hr e hb hv h => ?_⟩, hm, F.kp, hb⟩
  · obtain ⟨_, _, _, _, _, h, _⟩ := h
    cases h
  · obtain ⟨_, _, _, _, _, h, _⟩ := h
    cases h
end
end Dl

/-! ### dicts, by numbers and texts, by tuples of these -/
namespace Dl
open PySem PySem.Spec PyProof.Rows L2
def kOf : PyData → Option Key
  | .int i => some (.inl i)
  | .str x => some (.inr x)
  | _ => none
theorem kOf_kD (k : Key) : kOf (kD k) = some k := by cases k <;> rfl
theorem kOf_eq {d : PyData} {k : Key} (h : kOf d = some k) : d = kD k := by
  cases d <;> cases h <;> rfl
def ksOf : List PyData → Option (List Key)
  | [] => some []
  | d :: r => (kOf d).bind fun k => (ksOf r).map (k :: ·)
theorem ksOf_map : ∀ ks : List Key, ksOf (ks.map kD) = some ks
  | [] => rfl
  | k :: r => by rw [List.map_cons, ksOf, kOf_kD, Option.bind_some, ksOf_map r]; rfl
theorem ksOf_eq : ∀ {ds : List PyData} {ks : List Key}, ksOf ds = some ks → ds = ks.map kD
  | [], _, h => by cases h; rfl
  | d :: r, ks, h => by
    unfold ksOf at h
    simp only [Option.bind_eq_some_iff, Option.map_eq_some_iff] at h
    obtain ⟨k, h1, r', h2, rfl⟩ := h
    rw [List.map_cons, ← kOf_eq h1, ← ksOf_eq h2]
/-- a key that is a tuple: of numbers and texts, one number at least -/
def keyT : PyData → Option (List Key)
  | .tuple ds => if keyless ds = true then none else ksOf ds
  | _ => none
section
variable {κ : Type} [DecidableEq κ]
def getL (ds : List (κ × PyData)) (k : κ) : Option PyData := (ds.find? fun p => decide (p.1 = k)).map (·.2)
def putL (ds : List (κ × PyData)) (k : κ) (d : PyData) : List (κ × PyData) := if (ds.any fun p => decide (p.1 = k)) = true then ds.map (fun p => if p.1 = k then (p.1, d) else p) else ds ++ [(k, d)]
theorem getL_cons {p : κ × PyData} {r : List (κ × PyData)} {k : κ} : getL (p :: r) k = if p.1 = k then some p.2 else getL r k := by
  unfold getL
  rw [List.find?_cons]
  by_cases e : p.1 = k
  · rw [if_pos e]; simp [e]
  · rw [if_neg e]; simp [e]
theorem valV_cons {p : κ × V} {r : List (κ × V)} {k : κ} : valV (p :: r) k = if p.1 = k then some p.2 else valV r k := by
  by_cases e : p.1 = k
  · rw [if_pos e, valV_pos e]
  · rw [if_neg e, valV_neg e]
theorem putK_cons {p : κ × V} {r : List (κ × V)} {k : κ} {v : V} (e : p.1 ≠ k) : putK (p :: r) k v = p :: putK r k v := by
  unfold putK
  rw [List.any_cons, decide_eq_false e, Bool.false_or]
  split
  · rw [List.map_cons, if_neg e]
  · rfl
theorem putL_cons {p : κ × PyData} {r : List (κ × PyData)} {k : κ} {v : PyData} (e : p.1 ≠ k) : putL (p :: r) k v = p :: putL r k v := by
  unfold putL
  rw [List.any_cons, decide_eq_false e, Bool.false_or]
  split
  · rw [List.map_cons, if_neg e]
  · rfl
end
/-- dicts by numbers and texts, as trees -/
def getF (ds : List (PyData × PyData)) (k : Key) : Option PyData := (ds.find? fun p => decide (kOf p.1 = some k)).map (·.2)
def putF (ds : List (PyData × PyData)) (k : Key) (d : PyData) : List (PyData × PyData) := if (ds.any fun p => decide (kOf p.1 = some k)) = true then ds.map (fun p => if kOf p.1 = some k then (p.1, d) else p) else ds ++ [(kD k, d)]
section
variable {K : PySem.W.Frag} {mu : Addr → Prop} {H : Hp}
theorem DtAll.keys : ∀ {xs : List V} {ks : List Key}, DtAll K mu H xs (ks.map kD) → xs = ks.map kV
  | _, [], .nil => rfl
  | _, .inl i :: r, .cons h t => by
    rw [List.map_cons, ← DtAll.keys t, (show Dt K mu H _ (.int i) from h).inti]
    rfl
  | _, .inr x :: r, .cons h t => by
    rw [List.map_cons, ← DtAll.keys t, (show Dt K mu H _ (.str x) from h).text]
    rfl
theorem Dt.keyT {v : V} {d : PyData} {ks : List Key} (t : Dt K mu H v d) (e : keyT d = some ks) : ∃ b, v = .ref b ∧ H b = some (.tup (ks.map kV)) := by
  unfold Dl.keyT at e
  split at e
  · split at e
    · cases e
    · rename_i ds nk
      have := ksOf_eq e
      subst this
      cases t with
      | tup h n t =>
        obtain rfl := t.keys
        exact ⟨_, rfl, h⟩
      | tupK h z t => exact absurd z nk
  · cases e
theorem Dt.keyF {v : V} {d : PyData} {k : Key} (t : Dt K mu H v d) (e : kOf d = some k) : v = kV k := by
  have := kOf_eq e
  subst this
  cases k with
  | inl i => exact (show Dt K mu H v (.int i) from t).inti
  | inr x => exact (show Dt K mu H v (.str x) from t).text
/-- what a look says -/
def SameO (K : PySem.W.Frag) (mu : Addr → Prop) (H : Hp) : Option V → Option PyData → Prop
  | some v, some d => Dt K mu H v d
  | none, none => True
  | _, _ => False
theorem DtKT.get (k : List Key) : ∀ {kvs : List (List Key × V)} {ds : List (List Key × PyData)}, DtKT K mu H kvs ds → SameO K mu H (valV kvs k) (getL ds k)
  | _, _, .nil => True.intro
  | _, _, .cons (k := k') h t => by
    rw [valV_cons, getL_cons]
    dsimp only
    by_cases e : k' = k
    · rw [if_pos e, if_pos e]; exact h
    · rw [if_neg e, if_neg e]; exact DtKT.get k t
theorem getF_cons {d1 d2 : PyData} {r : List (PyData × PyData)} {k' k : Key} (h : d1 = kD k') : getF ((d1, d2) :: r) k = if k' = k then some d2 else getF r k := by
  subst h
  unfold getF
  rw [List.find?_cons]
  have : (kOf (kD k') = some k) ↔ k' = k := by rw [kOf_kD]; exact ⟨Option.some.inj, fun e => by rw [e]⟩
  by_cases e : k' = k
  · rw [if_pos e]; simp [this.mpr e]
  · rw [if_neg e]
    dsimp only
    rw [decide_eq_false (fun z => e (this.mp z))]
theorem DtKv.get (k : Key) : ∀ {kvs : List (Key × V)} {ds : List (PyData × PyData)}, DtKv K mu H kvs ds → SameO K mu H (valV kvs k) (getF ds k)
  | _, _, .nil => True.intro
  | _, _, .cons (k := k') h t => by
    rw [valV_cons, getF_cons rfl]
    dsimp only
    by_cases e : k' = k
    · rw [if_pos e, if_pos e]; exact h
    · rw [if_neg e, if_neg e]; exact DtKv.get k t
theorem DtKT.len : ∀ {kvs : List (List Key × V)} {ds : List (List Key × PyData)}, DtKT K mu H kvs ds → kvs.length = ds.length
  | _, _, .nil => rfl
  | _, _, .cons _ t => by rw [List.length_cons, List.length_cons, DtKT.len t]
theorem DtKv.len : ∀ {kvs : List (Key × V)} {ds : List (PyData × PyData)}, DtKv K mu H kvs ds → kvs.length = ds.length
  | _, _, .nil => rfl
  | _, _, .cons _ t => by rw [List.length_cons, List.length_cons, DtKv.len t]
theorem DtKT.any (k : List Key) : ∀ {kvs : List (List Key × V)} {ds : List (List Key × PyData)}, DtKT K mu H kvs ds → (kvs.any fun p => decide (p.1 = k)) = ds.any fun p => decide (p.1 = k)
  | _, _, .nil => rfl
  | _, _, .cons _ t => by rw [List.any_cons, List.any_cons, DtKT.any k t]
theorem DtKT.map (k : List Key) {v : V} {d : PyData} (h : Dt K mu H v d) : ∀ {kvs : List (List Key × V)} {ds : List (List Key × PyData)}, DtKT K mu H kvs ds → DtKT K mu H (kvs.map fun p => if p.1 = k then (p.1, v) else p) (ds.map fun p => if p.1 = k then (p.1, d) else p)
  | _, _, .nil => .nil
  | _, _, .cons (k := k') g t => by
    rw [List.map_cons, List.map_cons]
    dsimp only
    by_cases e : k' = k
    · rw [if_pos e, if_pos e]; exact .cons h (DtKT.map k h t)
    · rw [if_neg e, if_neg e]; exact .cons g (DtKT.map k h t)
theorem DtKT.app : ∀ {kvs ls : List (List Key × V)} {ds es : List (List Key × PyData)}, DtKT K mu H kvs ds → DtKT K mu H ls es → DtKT K mu H (kvs ++ ls) (ds ++ es)
  | _, _, _, _, .nil, h => h
  | _, _, _, _, .cons g t, h => .cons g (DtKT.app t h)
theorem DtKT.put (k : List Key) {v : V} {d : PyData} (h : Dt K mu H v d) {kvs : List (List Key × V)} {ds : List (List Key × PyData)} (t : DtKT K mu H kvs ds) : DtKT K mu H (putK kvs k v) (putL ds k d) := by
  unfold putK putL
  rw [t.any k]
  split
  · exact t.map k h
  · exact t.app (.cons h .nil)
theorem DtKv.any (k : Key) : ∀ {kvs : List (Key × V)} {ds : List (PyData × PyData)}, DtKv K mu H kvs ds → (kvs.any fun p => decide (p.1 = k)) = ds.any fun p => decide (kOf p.1 = some k)
  | _, _, .nil => rfl
  | _, _, .cons (k := k') _ t => by
    rw [List.any_cons, List.any_cons, DtKv.any k t]
    congr 1
    rw [kOf_kD]
    exact decide_eq_decide.mpr ⟨congrArg some, Option.some.inj⟩
theorem DtKv.mapK (k : Key) {v : V} {d : PyData} (h : Dt K mu H v d) : ∀ {kvs : List (Key × V)} {ds : List (PyData × PyData)}, DtKv K mu H kvs ds → DtKv K mu H (kvs.map fun p => if p.1 = k then (p.1, v) else p) (ds.map fun p => if kOf p.1 = some k then (p.1, d) else p)
  | _, _, .nil => .nil
  | _, _, .cons (k := k') g t => by
    rw [List.map_cons, List.map_cons]
    dsimp only
    rw [kOf_kD]
    by_cases e : k' = k
    · rw [if_pos e, if_pos (congrArg some e)]; exact .cons h (DtKv.mapK k h t)
    · rw [if_neg e, if_neg (fun z => e (Option.some.inj z))]; exact .cons g (DtKv.mapK k h t)
theorem DtKv.app : ∀ {kvs ls : List (Key × V)} {ds es : List (PyData × PyData)}, DtKv K mu H kvs ds → DtKv K mu H ls es → DtKv K mu H (kvs ++ ls) (ds ++ es)
  | _, _, _, _, .nil, h => h
  | _, _, _, _, .cons g t, h => .cons g (DtKv.app t h)
theorem DtKv.put (k : Key) {v : V} {d : PyData} (h : Dt K mu H v d) {kvs : List (Key × V)} {ds : List (PyData × PyData)} (t : DtKv K mu H kvs ds) : DtKv K mu H (putK kvs k v) (putF ds k d) := by
  unfold putK putF
  rw [t.any k]
  split
  · exact t.mapK k h
  · exact t.app (.cons h .nil)
end
/-! the entries of a dict by tuples, back from the tree -/
def unT : List (PyData × PyData) → Option (List (List Key × PyData))
  | [] => some []
  | (.tuple ds, d) :: r => (ksOf ds).bind fun k => (unT r).map ((k, d) :: ·)
  | _ => none
theorem unT_kvD : ∀ ds : List (List Key × PyData), unT (kvD ds) = some ds
  | [] => rfl
  | (k, d) :: r => by
    show unT ((.tuple (k.map kD), d) :: kvD r) = _
    unfold unT
    rw [ksOf_map, Option.bind_some, unT_kvD r]
    rfl
/-- a look into a dict: nothing where it is none, or the key is of no such kind -/
def lookD : PyData → PyData → Option (Option PyData)
  | .dict ((.none, .none) :: r), k => (keyT k).bind fun kk => (unT r).map fun ds => getL ds kk
  | .dict kvs, k => if realD kvs = true then (kOf k).map fun kk => getF kvs kk else none
  | _, _ => none
theorem lookD_t {ds : List (List Key × PyData)} {k : PyData} {kk : List Key} (h : keyT k = some kk) : lookD (.dict ((.none, .none) :: kvD ds)) k = some (getL ds kk) := by
  show ((keyT k).bind fun kk => (unT (kvD ds)).map fun ds => getL ds kk) = _
  rw [h, Option.bind_some, unT_kvD]
  rfl
section
variable {K : PySem.W.Frag} {mu : Addr → Prop} {H : Hp}
theorem DtKv.real {kvs : List (Key × V)} {ds : List (PyData × PyData)} (t : DtKv K mu H kvs ds) : realD ds = true ∧ ∀ k, lookD (.dict ds) k = (kOf k).map fun kk => getF ds kk := by
  cases t with
  | nil => exact ⟨rfl, fun k => rfl⟩
  | cons h t =>
    rename_i k v vs d ds
    cases k <;> exact ⟨rfl, fun k => rfl⟩
theorem look_ok {v y : V} {d k : PyData} {o : Option PyData} (t : Dt K mu H v d) (u : Dt K mu H y k) (e : lookD d k = some o) : ∃ a ov, v = .ref a ∧ DGet H a y ov ∧ IsD H a ∧ SameO K mu H ov o := by
  cases t with
  | dcT h n t =>
    have e : ((keyT k).bind fun kk => (unT (kvD _)).map fun ds => getL ds kk) = some o := e
    rw [unT_kvD] at e
    simp only [Option.bind_eq_some_iff, Option.map_some, Option.some.injEq] at e
    obtain ⟨kk, e1, rfl⟩ := e
    obtain ⟨b, rfl, hb⟩ := u.keyT e1
    exact ⟨_, _, rfl, DGet.t h hb, .inr ⟨_, .inl h⟩, t.get kk⟩
  | dct h n t =>
    rw [t.real.2] at e
    simp only [Option.map_eq_some_iff] at e
    obtain ⟨kk, e1, rfl⟩ := e
    obtain rfl := u.keyF e1
    exact ⟨_, _, rfl, DGet.k h, .inl ⟨_, .inl h⟩, t.get kk⟩
  | scr h t => simp [lookD, realD] at e
  | exc h n => simp [lookD, realD] at e
  | _ => cases e
end
def gGetD (d k : PyData) : Option PyData := (lookD d k).bind id
def gInD (neg : Bool) (k d : PyData) : Option PyData := (lookD d k).map fun o => .bool (if neg then o.isNone else o.isSome)
section
variable {X : Cx} {Z : Par} {a b e i o : Expr} {pos : Pos} {fo fi fe : DE}
theorem sameO_some {K : PySem.W.Frag} {mu : Addr → Prop} {H : Hp} {ov : Option V} {d : PyData} (h : SameO K mu H ov (some d)) : ∃ v, ov = some v ∧ Dt K mu H v d := by
  cases ov with
  | none => exact h.elim
  | some v => exact ⟨v, rfl, h⟩
theorem sameO_is {K : PySem.W.Frag} {mu : Addr → Prop} {H : Hp} {ov : Option V} {o : Option PyData} (h : SameO K mu H ov o) : ov.isSome = o.isSome := by
  cases ov <;> cases o <;> first | rfl | exact h.elim
/-- d[k], there -/
theorem dgetd (hu : X.A.units + 1 < cLine) (ho : PE X o (lft X.K Z fo)) (hi : PE X i (lft X.K Z fi)) (hs : NoSl i := by exact fun _ _ => rfl) : PE X (.Subscript o i pos) (lft X.K Z (dOp gGetD fo fi)) := PEimp (pe_dget hu ho hi hs) fun σ H Q h => by
  obtain ⟨M, s, d, s', rl, hf, k⟩ := h
  obtain ⟨d1, s1, d2, h1, h2, h3⟩ := dOp_some hf
  unfold gGetD at h3
  simp only [Option.bind_eq_some_iff, id] at h3
  obtain ⟨o, h4, rfl⟩ := h3
  refine ⟨M, s, d1, s1, rl, h1, fun x H1 k1 r1 t1 => ⟨M, s1, d2, s', r1, h2, fun y H2 k2 r2 t2 => ?_⟩⟩
  obtain ⟨a, ov, rfl, g, _, so⟩ := look_ok (t1.mono k2.kp) t2 h4
  obtain ⟨v, rfl, tv⟩ := sameO_some so
  exact ⟨a, v, rfl, g, k v H2 (k1.trans k2) r2 tv⟩
theorem lift_ind {neg : Bool} {σ : L2.St} {H : Hp} {Q : VK} (h : lft X.K Z (dOp (gInD neg) fi fo) σ H Q) : lft X.K Z fi σ H fun y H1 => lft X.K Z fo σ H1 fun x H2 => ∃ a ov, x = .ref a ∧ DGet H2 a y ov ∧ Q (.bl (if neg then !ov.isSome else ov.isSome)) H2 := by
  obtain ⟨M, s, d, s', rl, hf, k⟩ := h
  obtain ⟨d1, s1, d2, h1, h2, h3⟩ := dOp_some hf
  unfold gInD at h3
  simp only [Option.map_eq_some_iff] at h3
  obtain ⟨o, h4, rfl⟩ := h3
  refine ⟨M, s, d1, s1, rl, h1, fun x H1 k1 r1 t1 => ⟨M, s1, d2, s', r1, h2, fun y H2 k2 r2 t2 => ?_⟩⟩
  obtain ⟨a, ov, rfl, g, _, so⟩ := look_ok t2 (t1.mono k2.kp) h4
  refine ⟨a, ov, rfl, g, ?_⟩
  have e := sameO_is so
  cases o with
  | none =>
    have e' : ov.isSome = false := e
    rw [e']
    exact k _ H2 (k1.trans k2) r2 (.bl _)
  | some d =>
    have e' : ov.isSome = true := e
    rw [e']
    exact k _ H2 (k1.trans k2) r2 (.bl _)
/-- k in d, k not in d -/
theorem dind (hu : X.A.units + 1 < cLine) (hi : PE X i (lft X.K Z fi)) (ho : PE X o (lft X.K Z fo)) (hm : behindInMarks .In o = false := by with_unfolding_all rfl) : PE X (.Compare i [.In] [o] pos) (lft X.K Z (dOp (gInD false) fi fo)) := PEimp (pe_cmp (pc_din hu hi ho) hm) fun σ H Q h => lift_ind h
theorem dnotind (hu : X.A.units + 1 < cLine) (hi : PE X i (lft X.K Z fi)) (ho : PE X o (lft X.K Z fo)) (hm : behindInMarks .NotIn o = false := by with_unfolding_all rfl) : PE X (.Compare i [.NotIn] [o] pos) (lft X.K Z (dOp (gInD true) fi fo)) := PEimp (pe_cmp (pc_dnotin hu hi ho) hm) fun σ H Q h => lift_ind h
end

/-! tests -/
section
variable {X : Cx} {Z : Par} {a b e i o : Expr} {pos : Pos} {fo fi fe : DE}
theorem lift_indT {neg : Bool} {σ : L2.St} {H : Hp} {Q : Bool → Hp → Prop} (h : lfT X.K Z (dTst (dOp (gInD neg) fi fo)) σ H Q) : lft X.K Z (dOp (gInD neg) fi fo) σ H fun v H' => ∃ b, v = .bl b ∧ Q b H' := by
  obtain ⟨M, s, b, s', rl, hf, k⟩ := h
  exact ⟨M, s, .bool b, s', rl, dTst_some hf, fun v H' k1 r1 t1 => ⟨b, t1.bool, k H' k1 r1⟩⟩
theorem dtind (hu : X.A.units + 1 < cLine) (hi : PE X i (lft X.K Z fi)) (ho : PE X o (lft X.K Z fo)) (hm : behindInMarks .In o = false := by with_unfolding_all rfl) : PT X (.Compare i [.In] [o] pos) (lfT X.K Z (dTst (dOp (gInD false) fi fo))) := PTimp (pt_cmp (pc_din hu hi ho) hm) fun σ H Q h => by
  exact lift_ind (lift_indT h)
theorem dtnotind (hu : X.A.units + 1 < cLine) (hi : PE X i (lft X.K Z fi)) (ho : PE X o (lft X.K Z fo)) (hm : behindInMarks .NotIn o = false := by with_unfolding_all rfl) : PT X (.Compare i [.NotIn] [o] pos) (lfT X.K Z (dTst (dOp (gInD true) fi fo))) := PTimp (pt_cmp (pc_dnotin hu hi ho) hm) fun σ H Q h => by
  exact lift_ind (lift_indT h)
/-- d.get(k, x) -/
def dGet2 (fo fi fe : DE) : DE := fun s => (fo s).bind fun p => (fi p.2).bind fun q => (fe q.2).bind fun r => (lookD p.1 q.1).map fun o => (o.getD r.1, r.2)
theorem isD_of' {K : PySem.W.Frag} {mu : Addr → Prop} {H : Hp} {v : V} {d k : PyData} {o : Option PyData} (t : Dt K mu H v d) (e : lookD d k = some o) : ∃ a, v = .ref a ∧ IsD H a := by
  cases t with
  | dcT h n t => exact ⟨_, rfl, .inr ⟨_, .inl h⟩⟩
  | dct h n t => exact ⟨_, rfl, .inl ⟨_, .inl h⟩⟩
  | scr h t => simp [lookD, realD] at e
  | exc h n => simp [lookD, realD] at e
  | _ => cases e
theorem dget2 {apos cpos : Pos} (hu : X.A.units + 1 < cLine) (ho : PE X o (lft X.K Z fo)) (hi : PE X i (lft X.K Z fi)) (he : PE X e (lft X.K Z fe)) (m : M2 X o "get" apos i e cpos := by exact ⟨rfl, rfl, rfl, rfl⟩) : PE X (.Call (.Attribute o "get" apos) [i, e] [] cpos) (lft X.K Z (dGet2 fo fi fe)) := PEimp (pe_dget2 hu ho hi he m) fun σ H Q h => by
  obtain ⟨M, s, d, s', rl, hf, k⟩ := h
  unfold dGet2 at hf
  simp only [Option.bind_eq_some_iff, Option.map_eq_some_iff] at hf
  obtain ⟨⟨d1, s1⟩, h1, ⟨d2, s2⟩, h2, ⟨d3, s3⟩, h3, o', h4, h5⟩ := hf
  cases h5
  refine ⟨M, s, d1, s1, rl, h1, fun x H1 k1 r1 t1 => ?_⟩
  obtain ⟨a, rfl, hd⟩ := isD_of' t1 h4
  refine ⟨a, rfl, hd, M, s1, d2, s2, r1, h2, fun y H2 k2 r2 t2 => ⟨M, s2, d3, _, r2, h3, fun z H3 k3 r3 t3 => ?_⟩⟩
  obtain ⟨a', ov, ea, g, _, so⟩ := look_ok (t1.mono (k2.trans k3).kp) (t2.mono k3.kp) h4
  cases ea
  refine ⟨ov, g, ?_⟩
  cases o' with
  | none =>
    cases ov with
    | some v => exact so.elim
    | none => exact k _ H3 (k1.trans (k2.trans k3)) r3 t3
  | some d =>
    cases ov with
    | none => exact so.elim
    | some v => exact k _ H3 (k1.trans (k2.trans k3)) r3 so
end
/-! ### a name's own dict -/
section
variable {K : PySem.W.Frag} {Z : Par} {M M' : List Addr} {σ : L2.St} {H H' : Hp} {s s' : Sl} {p : Addr} {mu : Addr → Prop} {q : Option Addr}
theorem SlAll.setDic {a : Addr} {c : Ct} (h1 : CtOk K mu H a c) {σ : L2.St} {s : Sl} {M : List Addr} (t : SlAll K mu q H σ s M) :
    ∀ (i : Nat), i < s.length → a ∉ M → ∃ M', (∀ b ∈ M', b ∈ M ∨ b = a) ∧ SlAll K mu q H (σ.set i (some (.ref a))) (s.set i (.dic c)) M' := by
  have top : ∀ {σ : L2.St} {s : Sl} {M0 M : List Addr}, SlAll K mu q H σ s M → a ∉ M0 → (∀ b ∈ M, b ∈ M0) → ∃ M', (∀ b ∈ M', b ∈ M0 ∨ b = a) ∧ SlAll K mu q H (some (.ref a) :: σ) (.dic c :: s) M' := fun t n sub =>
    ⟨_, fun b hb => (List.mem_cons.mp hb).elim .inr fun z => .inl (sub b z), .dic h1 (fun z => n (sub _ z)) t⟩
  induction t with
  | nil => intro i hi _; exact absurd hi (Nat.not_lt_zero _)
  | dat h t ih =>
    intro i hi n
    cases i with
    | zero => exact top t n fun _ h => h
    | succ i =>
      obtain ⟨M', a1, b1⟩ := ih i (by simpa using hi) n
      exact ⟨M', a1, .dat h b1⟩
  | no t ih =>
    intro i hi n
    cases i with
    | zero => exact top t n fun _ h => h
    | succ i =>
      obtain ⟨M', a1, b1⟩ := ih i (by simpa using hi) n
      exact ⟨M', a1, .no b1⟩
  | pot e h d t ih =>
    intro i hi n
    cases i with
    | zero => exact top t n fun _ h => h
    | succ i =>
      obtain ⟨M', a1, b1⟩ := ih i (by simpa using hi) n
      exact ⟨M', a1, .pot e h d b1⟩
  | tab e h d f t ih =>
    intro i hi n
    cases i with
    | zero => exact top t n fun _ h => h
    | succ i =>
      obtain ⟨M', a1, b1⟩ := ih i (by simpa using hi) n
      exact ⟨M', a1, .tab e h d f b1⟩
  | @own c' ys es σ s M h d m t ih =>
    intro i hi n
    cases i with
    | zero => exact top t n fun _ h => List.mem_cons_of_mem _ h
    | succ i =>
      obtain ⟨M', a1, b1⟩ := ih i (by simpa using hi) (fun z => n (List.mem_cons_of_mem _ z))
      refine ⟨c' :: M', fun b hb => ?_, .own h d (fun z => (a1 _ z).elim m fun w => n (w ▸ List.mem_cons_self)) b1⟩
      rcases List.mem_cons.mp hb with z | z
      · exact .inl (z ▸ List.mem_cons_self)
      · exact (a1 b z).elim (fun w => .inl (List.mem_cons_of_mem _ w)) .inr
  | @dic c' ct σ s M h m t ih =>
    intro i hi n
    cases i with
    | zero => exact top t n fun _ h => List.mem_cons_of_mem _ h
    | succ i =>
      obtain ⟨M', a1, b1⟩ := ih i (by simpa using hi) (fun z => n (List.mem_cons_of_mem _ z))
      refine ⟨c' :: M', fun b hb => ?_, .dic h (fun z => (a1 _ z).elim m fun w => n (w ▸ List.mem_cons_self)) b1⟩
      rcases List.mem_cons.mp hb with z | z
      · exact .inl (z ▸ List.mem_cons_self)
      · exact (a1 b z).elim (fun w => .inl (List.mem_cons_of_mem _ w)) .inr
theorem Rel.dic (r : Rel K (Z.add p) M σ H s) (h0 : Z.H0 p = none) (hpp : Z.p ≠ some p) (hm : ¬ Z.m0 p) {c : Ct} (h1 : CtOk K (Mu (Z.add p) M) H p c) (i : Nat) (hi : i < s.length) :
    ∃ M', Rel K Z M' (σ.set i (some (.ref p))) H (s.set i (.dic c)) ∧ ∀ b ∈ M', b ∈ M ∨ b = p := by
  have n : p ∉ M := fun z => (r.fr p z).2.2.1 (.inr rfl)
  obtain ⟨M', a, b⟩ := r.sl.setDic h1 i hi n
  have k : Kp (Mu (Z.add p) M) H (Mu Z M') H := fun c u e nn => ⟨e, fun q => nn (mu_add.mpr (by
    rcases q with q | q | q
    · exact .inl (.inl q)
    · exact .inl (.inr (.inl q))
    · exact (a c q).elim (fun w => .inl (.inr (.inr w))) .inr))⟩
  refine ⟨M', ⟨r.base, fun c hc => ?_, fun a h => r.mz a (.inl h), r.pt, b.kp k (M := M') (fun _ _ _ e => e) (fun _ _ _ e => e) (fun _ h => h)⟩, a⟩
  rcases a c hc with h | h
  · obtain ⟨h1, h2, h3, h4⟩ := r.fr c h
    exact ⟨h1, h2, fun q => h3 (.inl q), h4⟩
  · subst h
    obtain ⟨o, e, _⟩ := h1.there
    exact ⟨h0, hpp, hm, o, e⟩
theorem SlAll.wrDic {c' : Ct} {a : Addr} (hk : Kp mu H mu H') (hs : ∀ b o, H b = some o → b ≠ a → H' b = some o) (h1 : CtOk K mu H' a c') (hq : q ≠ some a) {M : List Addr} (t : SlAll K mu q H σ s M) :
    ∀ (i : Nat) (c : Ct), s[i]? = some (.dic c) → σ[i]? = some (some (.ref a)) → SlAll K mu q H' σ (s.set i (.dic c')) M := by
  have rest : ∀ {σ : L2.St} {s : Sl} {M : List Addr}, a ∉ M → SlAll K mu q H σ s M → SlAll K mu q H' σ s M := fun {σ s M} n t =>
    t.kp hk (M := M) (fun b xs hb e => hs b _ e (fun z => n (z ▸ hb))) (fun b xs hb e => hs b _ e (fun z => hq (z ▸ hb))) (fun _ h => h)
  induction t with
  | nil => intro i ds e; simp at e
  | dat h t ih =>
    intro i ds e f
    cases i with
    | zero => simp at e
    | succ i => exact .dat (h.mono hk) (ih i ds (by simpa using e) (by simpa using f))
  | no t ih =>
    intro i ds e f
    cases i with
    | zero => simp at e
    | succ i => exact .no (ih i ds (by simpa using e) (by simpa using f))
  | pot e0 h d t ih =>
    intro i ds e f
    cases i with
    | zero => simp at e
    | succ i => exact .pot e0 (hs _ _ h (fun z => hq (z ▸ e0))) (d.mono hk) (ih i ds (by simpa using e) (by simpa using f))
  | tab e0 h d w t ih =>
    intro i ds e f
    cases i with
    | zero => simp at e
    | succ i => exact .tab e0 (hs _ _ h (fun z => hq (z ▸ e0))) d (fun pos cv z => let ⟨c, g1, g2, g3⟩ := w pos cv z; ⟨c, g1, (hk _ _ g2 g3).1, (hk _ _ g2 g3).2⟩) (ih i ds (by simpa using e) (by simpa using f))
  | @own c ys es σ s M h d m t ih =>
    intro i ds e f
    cases i with
    | zero => simp at e
    | succ i =>
      have nc : c ≠ a := fun z => by
        subst z
        obtain ⟨b, g1, g2, _⟩ := t.getDic (i := i) (by simpa using e)
        have : σ[i]? = some (some (.ref c)) := by simpa using f
        rw [this] at g1
        simp only [Option.some.injEq, V.ref.injEq] at g1
        exact m (g1 ▸ g2)
      exact .own (hs _ _ h nc) (d.mono hk) m (ih i ds (by simpa using e) (by simpa using f))
  | @dic c ct σ s M h m t ih =>
    intro i ds e f
    cases i with
    | zero =>
      simp at f
      subst f
      exact .dic h1 m (rest m t)
    | succ i =>
      have nc : c ≠ a := fun z => by
        subst z
        obtain ⟨b, g1, g2, _⟩ := t.getDic (i := i) (by simpa using e)
        have : σ[i]? = some (some (.ref c)) := by simpa using f
        rw [this] at g1
        simp only [Option.some.injEq, V.ref.injEq] at g1
        exact m (g1 ▸ g2)
      exact .dic (h.mono hk fun o e => hs _ _ e nc) m (ih i ds (by simpa using e) (by simpa using f))
theorem Rel.atD (r : Rel K Z M σ H s) {i : Nat} {c : Ct} (h : s[i]? = some (.dic c)) : ∃ a, σ[i]? = some (some (.ref a)) ∧ CtOk K (Mu Z M) H a c ∧ Mu Z M a ∧
    ∀ H' c', CtOk K (Mu Z M) H' a c' → (∀ b o, H b = some o → b ≠ a → H' b = some o) → Rel K Z M σ H' (s.set i (.dic c')) ∧ Kq Z M H M H' := by
  obtain ⟨a, h1, h2, h3⟩ := r.sl.getDic h
  have hmu : Mu Z M a := .inr (.inr h2)
  refine ⟨a, h1, h3, hmu, fun H' c' e1 e2 => ?_⟩
  have k : Kp (Mu Z M) H (Mu Z M) H' := fun b o e n => ⟨e2 b o e (fun z => n (z ▸ hmu)), n⟩
  obtain ⟨oa, eoa, _⟩ := e1.there
  have ex : ∀ b o, H b = some o → ∃ u, H' b = some u := fun b o e => by
    by_cases z : b = a
    · rw [z]; exact ⟨_, eoa⟩
    · exact ⟨o, e2 b o e z⟩
  refine ⟨⟨fun b o e n => e2 b o (r.base b o e n) (fun z => ?_), fun b hb => let ⟨f1, f2, f3, u, f4⟩ := r.fr b hb; ⟨f1, f2, f3, ex b u f4⟩, fun b hb => let ⟨u, f⟩ := r.mz b hb; ex b u f, fun b hb => let ⟨u, f⟩ := r.pt b hb; ex b u f, ?_⟩, fun b o e _ n => ⟨e2 b o e (fun z => n (z ▸ h2)), n⟩⟩
  · rw [z, (r.fr a h2).1] at e; cases e
  · exact r.sl.wrDic k e2 e1 (r.fr a h2).2.1 i c h h1
end

/-- x = {} -/
def sNewD (i : Nat) (c : Ct) : DS := fun s => if i < s.length then some (.nx (s.set i (.dic c))) else none
/-- x[k] = v, x a dict of one's own -/
def putC (c : Ct) (k d : PyData) : Option Ct := match c with
  | .kT ds => if ds.length < sizeLine then (keyT k).map fun kk => .kT (putL ds kk d) else none
  | .kK ds => if ds.length < sizeLine then (kOf k).map fun kk => .kK (putF ds kk d) else none
def dicAt (s : Sl) (i : Nat) : Option Ct := match s[i]? with
  | some (.dic c) => some c
  | _ => none
theorem dicAt_eq {s : Sl} {i : Nat} {c : Ct} (h : dicAt s i = some c) : s[i]? = some (.dic c) := by
  unfold dicAt at h
  split at h
  · cases h; assumption
  · cases h
def sPutD (i : Nat) (fv fk : DE) : DS := fun s => (fv s).bind fun p => (dicAt p.2 i).bind fun _ => (fk p.2).bind fun q => (dicAt q.2 i).bind fun c => (putC c q.1 p.1).map fun c' => .nx (q.2.set i (.dic c'))
def ctD : Ct → PyData
  | .kT ds => .dict ((.none, .none) :: kvD ds)
  | .kK ds => .dict ds
/-- a name's own dict is data from here on -/
def sFrzD (i : Nat) : DS := fun s => (dicAt s i).map fun c => .nx (s.set i (.dat (ctD c)))
section
variable {X : Cx} {Z : Par} {a b e c : Expr} {pos : Pos} {fv fk : DE} {sts : List Stmt} {g : DS}
theorem newD_lift {i : Nat} {ct : Ct} {o : HO} {D : Ends} {σ : L2.St} {H : Hp} (h : lfS X.K Z (sNewD i ct) D σ H) (hc : ∀ mu H p, H p = some o → CtOk X.K mu H p ct) : ∀ p, H p = none → D.nx (σ.set i (some (.ref p))) (upd H p o) := fun p hp => by
  obtain ⟨M, s, fl, rl, h1, k⟩ := h
  unfold sNewD at h1
  split at h1
  case isFalse => cases h1
  rename_i hlt
  cases h1
  have npp : Z.p ≠ some p := fun z => by
    obtain ⟨o, e⟩ := rl.pt p z
    rw [hp] at e; cases e
  have n0 : Z.H0 p = none := by
    cases q : Z.H0 p with
    | none => rfl
    | some o =>
      have := rl.base p o q npp
      rw [hp] at this; cases this
  have nm : ¬ Z.m0 p := fun z => by
    obtain ⟨o, e⟩ := rl.mz p z
    rw [hp] at e; cases e
  have r1 := rl.addNew hp o
  obtain ⟨M', r2, k2⟩ := r1.dic n0 npp nm (hc _ _ p upd_same) i hlt
  exact k M' _ _ (fun c u e n1 n2 => ⟨grow_new hp c u e, fun z => (k2 c z).elim n2 (ne_of_none e hp)⟩) r2
theorem snewT {i : Nat} {x : Str} {pos' p2 : Pos} (hN : X.N.Nodup) (hi : X.N[i]? = some x) (hx : Loc X.env.scope x) (hs : swapsWith (.Dict [] [] p2) (some (.Name x pos')) pos.line X.env = pure false := by rfl)
    (hf : X.fn x = true ∨ X.env.scope.names.lookup x = some .local := by first | exact .inl rfl | exact .inr rfl | assumption) : PS X (.Assign [.Name x pos'] (.Dict [] [] p2) pos) (lfS X.K Z (sNewD i (.kT []))) := PSimp (ps_set hN hi hx pe_dnewT hs hf) fun D σ H h =>
  newD_lift h fun mu H p e => ⟨[], e, .nil⟩
theorem snewK {i : Nat} {x : Str} {pos' p2 : Pos} (hN : X.N.Nodup) (hi : X.N[i]? = some x) (hx : Loc X.env.scope x) (hs : swapsWith (.Dict [] [] p2) (some (.Name x pos')) pos.line X.env = pure false := by rfl)
    (hf : X.fn x = true ∨ X.env.scope.names.lookup x = some .local := by first | exact .inl rfl | exact .inr rfl | assumption) : PS X (.Assign [.Name x pos'] (.Dict [] [] p2) pos) (lfS X.K Z (sNewD i (.kK []))) := PSimp (ps_set hN hi hx pe_dnewK hs hf) fun D σ H h =>
  newD_lift h fun mu H p e => ⟨[], e, .nil⟩
theorem sputD (i : Nat) {pos' : Pos} (hu : X.A.units + 1 < cLine) (hv : PE X e (lft X.K Z fv)) (ha : PE X a (tVar i)) (hk : PE X c (lft X.K Z fk)) (hs : swapsWith e (some (.Subscript a c pos')) pos.line X.env = pure false := by rfl) :
    PS X (.Assign [.Subscript a c pos'] e pos) (lfS X.K Z (sPutD i fv fk)) := PSimp (ps_dput hu ha hk hv hs) fun D σ H h => by
  obtain ⟨M, s, fl, rl, hf, k⟩ := h
  unfold sPutD at hf
  simp only [Option.bind_eq_some_iff, Option.map_eq_some_iff] at hf
  obtain ⟨⟨d1, s1⟩, h1, c0, h2, ⟨d2, s2⟩, h3, c1, h4, c2, h5, h6⟩ := hf
  cases h6
  refine ⟨M, s, d1, s1, rl, h1, fun v H1 k1 r1 t1 => ?_⟩
  obtain ⟨a0, g1, _⟩ := r1.atD (dicAt_eq h2)
  refine ⟨.ref a0, g1, M, s1, d2, s2, r1, h3, fun y H2 k2 r2 t2 => ?_⟩
  obtain ⟨a1, g2, ct, mua, up⟩ := r2.atD (dicAt_eq h4)
  rw [g1] at g2
  cases g2
  have t1' := t1.mono k2.kp
  unfold putC at h5
  split at h5
  · split at h5
    · rename_i ds few
      simp only [Option.map_eq_some_iff] at h5
      obtain ⟨kk, e1, rfl⟩ := h5
      obtain ⟨kvs, e2, t⟩ := ct
      obtain ⟨b, rfl, hb⟩ := t2.keyT e1
      have kp : Kp (Mu Z M) H2 (Mu Z M) (upd H2 a0 (.dT (putK kvs kk v))) := fun b o e n => ⟨upd_lst b o e (fun z => n (by subst z; assumption)), n⟩
      obtain ⟨r3, k3⟩ := up (upd H2 a0 (.dT (putK kvs kk v))) (.kT (putL ds kk d1)) ⟨_, upd_same, (t.put kk t1').mono kp⟩ upd_lst
      exact ⟨a0, _, rfl, DPut.t e2 hb (by rw [t.len]; exact few), k M σ _ (k1.trans (k2.trans k3)) r3⟩
    · cases h5
  · split at h5
    · rename_i ds few
      simp only [Option.map_eq_some_iff] at h5
      obtain ⟨kk, e1, rfl⟩ := h5
      obtain ⟨kvs, e2, t⟩ := ct
      obtain rfl := t2.keyF e1
      have kp : Kp (Mu Z M) H2 (Mu Z M) (upd H2 a0 (.dK (putK kvs kk v))) := fun b o e n => ⟨upd_lst b o e (fun z => n (by subst z; assumption)), n⟩
      obtain ⟨r3, k3⟩ := up (upd H2 a0 (.dK (putK kvs kk v))) (.kK (putF ds kk d1)) ⟨_, upd_same, (t.put kk t1').mono kp⟩ upd_lst
      exact ⟨a0, _, rfl, DPut.k e2 (by rw [t.len]; exact few), k M σ _ (k1.trans (k2.trans k3)) r3⟩
    · cases h5
theorem CtOk.dt {K : PySem.W.Frag} {mu : Addr → Prop} {H : Hp} {a : Addr} {c : Ct} (h : CtOk K mu H a c) (n : ¬ mu a) : Dt K mu H (.ref a) (ctD c) := by
  cases c with
  | kT ds =>
    obtain ⟨kvs, e, t⟩ := h
    exact .dcT e n t
  | kK ds =>
    obtain ⟨kvs, e, t⟩ := h
    exact .dct e n t
theorem SlAll.frzD {K : PySem.W.Frag} {mu : Addr → Prop} {q : Option Addr} {H : Hp} {ct : Ct} {σ : L2.St} {s : Sl} {M : List Addr} (t : SlAll K mu q H σ s M) : ∀ (i : Nat), s[i]? = some (.dic ct) →
    ∃ a M', σ[i]? = some (some (.ref a)) ∧ CtOk K mu H a ct ∧ a ∈ M ∧ a ∉ M' ∧ (∀ b ∈ M', b ∈ M) ∧ (∀ mu', (∀ b, mu' b → mu b) → ¬ mu' a → SlAll K mu' q H σ (s.set i (.dat (ctD ct))) M') := by
  induction t with
  | nil => intro i e; simp at e
  | dat h t ih =>
    intro i e
    cases i with
    | zero => simp at e
    | succ i =>
      obtain ⟨a, M', h1, h2, h4, h5, h6, h7⟩ := ih i (by simpa using e)
      exact ⟨a, M', by simpa using h1, h2, h4, h5, h6, fun mu' hs hn => .dat (h.mono fun c u e nn => ⟨e, fun z => nn (hs c z)⟩) (h7 mu' hs hn)⟩
  | no t ih =>
    intro i e
    cases i with
    | zero => simp at e
    | succ i =>
      obtain ⟨a, M', h1, h2, h4, h5, h6, h7⟩ := ih i (by simpa using e)
      exact ⟨a, M', by simpa using h1, h2, h4, h5, h6, fun mu' hs hn => .no (h7 mu' hs hn)⟩
  | pot e1 h d t ih =>
    intro i e
    cases i with
    | zero => simp at e
    | succ i =>
      obtain ⟨a, M', h1, h2, h4, h5, h6, h7⟩ := ih i (by simpa using e)
      exact ⟨a, M', by simpa using h1, h2, h4, h5, h6, fun mu' hs hn => .pot e1 h (d.mono fun c u e nn => ⟨e, fun z => nn (hs c z)⟩) (h7 mu' hs hn)⟩
  | tab e1 h d f t ih =>
    intro i e
    cases i with
    | zero => simp at e
    | succ i =>
      obtain ⟨a, M', h1, h2, h4, h5, h6, h7⟩ := ih i (by simpa using e)
      exact ⟨a, M', by simpa using h1, h2, h4, h5, h6, fun mu' hs hn => .tab e1 h d (fun pos cv z => let ⟨c, g1, g2, g3⟩ := f pos cv z; ⟨c, g1, g2, fun w => g3 (hs c w)⟩) (h7 mu' hs hn)⟩
  | @own c ys es σ s M h d n t ih =>
    intro i e
    cases i with
    | zero => simp at e
    | succ i =>
      obtain ⟨a, M', h1, h2, h4, h5, h6, h7⟩ := ih i (by simpa using e)
      refine ⟨a, c :: M', by simpa using h1, h2, List.mem_cons_of_mem _ h4, fun z => (List.mem_cons.mp z).elim (fun w => n (w ▸ h4)) h5, fun b hb => (List.mem_cons.mp hb).elim (fun w => w ▸ List.mem_cons_self) fun w => List.mem_cons_of_mem _ (h6 b w), fun mu' hs hn => ?_⟩
      exact .own h (d.mono fun c u e nn => ⟨e, fun z => nn (hs c z)⟩) (fun z => n (h6 c z)) (h7 mu' hs hn)
  | @dic c ct' σ s M h n t ih =>
    intro i e
    cases i with
    | zero =>
      simp at e
      subst e
      refine ⟨c, M, rfl, h, List.mem_cons_self, n, fun b hb => List.mem_cons_of_mem _ hb, fun mu' hs hn => ?_⟩
      have k : Kp mu H mu' H := fun c u e nn => ⟨e, fun z => nn (hs c z)⟩
      exact .dat ((h.mono k fun _ e => e).dt hn) (t.kp k (fun _ _ _ e => e) (fun _ _ _ e => e) (fun _ h => h))
    | succ i =>
      obtain ⟨a, M', h1, h2, h4, h5, h6, h7⟩ := ih i (by simpa using e)
      refine ⟨a, c :: M', by simpa using h1, h2, List.mem_cons_of_mem _ h4, fun z => (List.mem_cons.mp z).elim (fun w => n (w ▸ h4)) h5, fun b hb => (List.mem_cons.mp hb).elim (fun w => w ▸ List.mem_cons_self) fun w => List.mem_cons_of_mem _ (h6 b w), fun mu' hs hn => ?_⟩
      exact .dic (h.mono (fun c u e nn => ⟨e, fun z => nn (hs c z)⟩) fun _ e => e) (fun z => n (h6 c z)) (h7 mu' hs hn)
theorem sfrzD {i : Nat} (h : PSs X sts (lfS X.K Z g)) : PSs X sts (lfS X.K Z (sSeq (sFrzD i) g)) := PSsimp h fun D σ H h => by
  obtain ⟨M, s, fl, rl, h1, k⟩ := h
  unfold sSeq sFrzD at h1
  simp only [Option.bind_eq_some_iff, Option.map_eq_some_iff] at h1
  obtain ⟨fl1, ⟨ct, h1, rfl⟩, h2⟩ := h1
  obtain ⟨a, M', g1, g2, g4, g5, g6, g7⟩ := rl.sl.frzD i (dicAt_eq h1)
  have sub : ∀ b, Mu Z M' b → Mu Z M b := fun b hb => by
    rcases hb with hb | hb | hb
    · exact .inl hb
    · exact .inr (.inl hb)
    · exact .inr (.inr (g6 b hb))
  have na : ¬ Mu Z M' a := fun hb => by
    rcases hb with hb | hb | hb
    · exact (rl.fr a g4).2.2.1 hb
    · exact (rl.fr a g4).2.1 hb
    · exact g5 hb
  have kk : Kq Z M H M' H := fun c u e _ nn => ⟨e, fun z => nn (g6 c z)⟩
  exact ⟨M', _, fl, ⟨rl.base, fun b hb => rl.fr b (g6 b hb), rl.mz, rl.pt, g7 _ sub na⟩, h2, k.mono kk⟩
end
/-! rules from the outside in -/
section
variable {N : Sl → Prop} {R : PyData → Sl → Prop} {s : Sl} {i : Nat} {fv fk fo fi fe : DE} {c c0 : Ct} {Q : PyData → Sl → Prop}
theorem s_newD (h : i < s.length) (k : N (s.set i (.dic c))) : Gs (sNewD i c s) N R := ⟨.inl ⟨_, by unfold sNewD; rw [if_pos h], k⟩⟩
theorem s_putD (h : Ge (fv s) fun d s1 => ∃ c0, dicAt s1 i = some c0 ∧ Ge (fk s1) fun k s2 => ∃ c, dicAt s2 i = some c ∧ Gd (putC c k d) fun c' => N (s2.set i (.dic c'))) : Gs (sPutD i fv fk s) N R := by
  obtain ⟨d, s1, e1, c0, e2, k, s2, e3, c, e4, c', e5, q⟩ := h
  exact ⟨.inl ⟨_, by unfold sPutD; rw [e1, Option.bind_some, e2, Option.bind_some, e3, Option.bind_some, e4, Option.bind_some, e5]; rfl, q⟩⟩
theorem s_frzD (h : dicAt s i = some c) (k : N (s.set i (.dat (ctD c)))) : Gs (sFrzD i s) N R := ⟨.inl ⟨_, by unfold sFrzD; rw [h]; rfl, k⟩⟩
theorem e_get2 (h : Ge (fo s) fun d s1 => Ge (fi s1) fun k s2 => Ge (fe s2) fun x s3 => Gd (lookD d k) fun o => Q (o.getD x) s3) : Ge (dGet2 fo fi fe s) Q := by
  obtain ⟨d, s1, e1, k, s2, e2, x, s3, e3, o, e4, q⟩ := h
  exact ⟨_, s3, by unfold dGet2; rw [e1, Option.bind_some, e2, Option.bind_some, e3, Option.bind_some, e4]; rfl, q⟩
end
end Dl

namespace Dl
open PySem PySem.Spec PyProof.Rows L2
/-! ### repr, with dicts by tuples among the parts -/
/-- as it is shown -/
def unM : PyData → PyData
  | .dict ((.none, .none) :: r) => .dict r
  | d => d
/-- what may be shown: data, or a dict by tuples of data -/
def realM : PyData → Bool
  | .dict ((.none, .none) :: r) => (unT r).isSome && realAlls (r.map (·.2))
  | d => realAll d
section
variable {X : Cx} {pins : List (Addr × Obj)} {σ : L2.St} {H : Hp} {s : Shared} {mu : Addr → Prop}
theorem reads_keys {ks : List Key} {us : List Value} (r : Vals (ks.map kV) us) : ReadsAll s.heap us (ks.map kD) [] := by
  induction ks generalizing us with
  | nil => cases r; exact .nil
  | cons k ks ih =>
    rw [List.map_cons] at r
    cases r with
    | cons h t =>
      rw [List.map_cons]
      cases k with
      | inl i => obtain ⟨t', rfl⟩ := (show ∃ t, _ = Value.int i t from h); exact .cons (as := []) (.int i t') (ih t)
      | inr x => obtain ⟨t', rfl⟩ := (show ∃ t, _ = Value.str x t from h); exact .cons (as := []) (.str x t') (ih t)
theorem readsKT_of (I : Inv X pins σ H s) (c : CG X) {knd : HeapKind X.prog X.w (List Key)} : ∀ {kvs : List (List Key × V)} {xs : List (List Key × Addr × Value)} {ds : List (List Key × PyData)}, DtKT X.K mu H kvs ds →
    Paired (fun (p : List Key × V) (q : List Key × Addr × Value) => p.1 = q.1 ∧ H q.2.1 = some (.tup (p.1.map kV)) ∧ RelV p.2 q.2.2) kvs xs → realAlls (ds.map (·.2)) = true →
    ∃ bs, ReadsAll s.heap ((xs.map (entryOfKey knd)).map (·.key)) ((kvD ds).map (·.1)) [] ∧ ReadsAll s.heap ((xs.map (entryOfKey knd)).map (·.val)) ((kvD ds).map (·.2)) bs ∧ sysModules ∉ bs
  | _, _, _, .nil, r, _ => by cases r; exact ⟨[], .nil, .nil, by simp⟩
  | _, _, _, .cons (k := k) (d := d) (ds := dr) h t, .cons (b := q) r1 r2, g => by
    obtain ⟨k', b, u⟩ := q
    obtain ⟨e1, e2, e3⟩ := r1
    have g' : realAll d = true ∧ realAlls (dr.map (·.2)) = true := by
      rw [List.map_cons, realAlls, Bool.and_eq_true] at g; exact g
    obtain ⟨bs, h1, h2, h3⟩ := readsKT_of I c (knd := knd) t r2 g'.2
    obtain ⟨cs, h4, h5⟩ := reads_of I c h e3 g'.1
    obtain ⟨its, rk, ⟨o, q1, q2, n, q3⟩, _⟩ := I.tuple (.inl (.inl e2))
    refine ⟨cs ++ bs, ?_, ?_, by simp [h5, h3]⟩
    · exact .cons (as := []) (.tuple q1 q2 q3 (by simpa using reads_keys rk)) h1
    · exact .cons h4 h2
theorem unM_kv {K : PySem.W.Frag} {kvs : List (Key × V)} {ds : List (PyData × PyData)} (t : DtKv K mu H kvs ds) : unM (.dict ds) = .dict ds ∧ realM (.dict ds) = realAll (.dict ds) := by
  cases t with
  | nil => exact ⟨rfl, rfl⟩
  | cons h t =>
    rename_i k v vs d ds
    cases k <;> exact ⟨rfl, rfl⟩
theorem reads1_of (I : Inv X pins σ H s) (c : CG X) {v : V} {u : Value} {d : PyData} (t : Dt X.K mu H v d) (r : RelV v u) (g : realM d = true) : ∃ as, Reads s.heap u (unM d) as ∧ sysModules ∉ as := by
  cases t with
  | dcT h n t =>
    rename_i a kvs ds
    cases r
    have g' : realAlls (ds.map (·.2)) = true := by
      have : ((unT (kvD ds)).isSome && realAlls ((kvD ds).map (·.2))) = true := g
      rw [Bool.and_eq_true] at this
      have e : (kvD ds).map (·.2) = ds.map (·.2) := by unfold kvD; rw [List.map_map]; rfl
      rw [← e]; exact this.2
    obtain ⟨z, ns, xs, kv, o, es, ep, q1, q2, q3, q4, q5⟩ := I.hok _ _ h
    obtain ⟨bs, h1, h2, h3⟩ := readsKT_of I c t kv g'
    rw [← q4] at h1 h2
    refine ⟨_, .dict q1 q2.1 q3 h1 h2, ?_⟩
    have no : sysModules ≠ a := fun e => (by rw [← e] at ns; simp at ns)
    simp [h3, no]
  | dct h n t =>
    rw [(unM_kv t).1]
    exact reads_of I c (.dct h n t) r ((unM_kv t).2 ▸ g)
  | scr h t => exact absurd g (by simp [realM, realAll, realKvs])
  | exc h n => exact absurd g (by simp [realM, realAll, realKvs])
  | non => exact reads_of (mu := mu) I c .non r g
  | bl b => exact reads_of (mu := mu) I c (.bl b) r g
  | int i => exact reads_of (mu := mu) I c (.int i) r g
  | str x => exact reads_of (mu := mu) I c (.str x) r g
  | lst h n t => exact reads_of I c (.lst h n t) r g
  | tup h n t => exact reads_of I c (.tup h n t) r g
  | tupK h z t => exact reads_of I c (.tupK h z t) r g
theorem readsM_of (I : Inv X pins σ H s) (c : CG X) : ∀ {vs : List V} {us : List Value} {ds : List PyData}, DtAll X.K mu H vs ds → Vals vs us → ds.all realM = true → ∃ as, ReadsAll s.heap us (ds.map unM) as ∧ sysModules ∉ as
  | _, _, _, .nil, r, _ => by cases r; exact ⟨[], .nil, by simp⟩
  | _, _, _, .cons h t, .cons r1 r2, g => by
    rw [List.all_cons, Bool.and_eq_true] at g
    obtain ⟨as, h1, h2⟩ := reads1_of I c h r1 g.1
    obtain ⟨bs, h3, h4⟩ := readsM_of I c t r2 g.2
    exact ⟨as ++ bs, .cons h1 h3, by simp [h2, h4]⟩
end
/-- the text of a tuple some of whose items may be dicts by tuples -/
def gReprT : List PyData → Option PyData
  | [.tuple ds] => if (((PyData.tuple (ds.map unM)).showable && ds.all realM) && (decide ((PyData.tuple (ds.map unM)).shown.length ≤ sizeLine) && decide ((PyData.tuple (ds.map unM)).depth ≤ 60))) = true then some (.str (PyData.tuple (ds.map unM)).shown) else none
  | _ => none
def rReprT (K : PySem.W.Frag) : List V → Hp → VK → Prop := fun xs H Q => ∃ mu ds, DtAll K mu H xs [.tuple ds] ∧ (((PyData.tuple (ds.map unM)).showable && ds.all realM) && (decide ((PyData.tuple (ds.map unM)).shown.length ≤ sizeLine) && decide ((PyData.tuple (ds.map unM)).depth ≤ 60))) = true ∧ Q (.str (PyData.tuple (ds.map unM)).shown) H
theorem call_reprT {X : Cx} (c : CG X) : CallR X (.builtin "repr") (rReprT X.K) := by
  rintro pins s σ H xs us Q I r ⟨mu, ds, t, g, q⟩
  simp only [Bool.and_eq_true, decide_eq_true_eq] at g
  obtain ⟨⟨g1, g2⟩, g3, g4⟩ := g
  cases t with
  | cons h t =>
  cases t
  cases r with
  | cons r1 r2 =>
  cases r2
  obtain ⟨a, ys, rfl, hq, u⟩ := h.tuple
  cases r1
  obtain ⟨its, rv, ⟨o, q1, q2, n, q3⟩, _⟩ := I.tuple hq
  obtain ⟨as, h1, h2⟩ := readsM_of I c u rv g2
  have rd : Reads s.heap (.ref a) (.tuple (ds.map unM)) as := .tuple q1 q2 q3 (by simpa using h1)
  exact repr_of_reads' rd g1 (fun _ => h2) c.gd (by have := c.un; omega) (fun _ _ e => e) (fun h' u tk hk => ⟨.str (PyData.tuple (ds.map unM)).shown, H, I.kept hk, ⟨_, rfl⟩, q⟩) g3
theorem ok_reprT {K : PySem.W.Frag} : CallOk K (rReprT K) gReprT := fun mu H xs ds d Q _ t e k => by
  unfold gReprT at e
  split at e
  · split at e
    case isFalse => cases e
    rename_i hg
    cases e
    exact ⟨mu, _, t, hg, k _ H (fun _ _ z => z) (.str _)⟩
  · cases e
/-! ### dict(..) of pairs -/
def pairsOf : List PyData → Option (List (Key × PyData))
  | [] => some []
  | .tuple [k, d] :: r => (kOf k).bind fun kk => (pairsOf r).map ((kk, d) :: ·)
  | _ => none
def mergeF (ds : List (PyData × PyData)) (more : List (Key × PyData)) : List (PyData × PyData) := more.foldl (fun acc p => putF acc p.1 p.2) ds
def gDictP : List PyData → Option PyData
  | [.list ds] => (pairsOf ds).map fun ps => .dict (mergeF [] ps)
  | _ => none
section
variable {K : PySem.W.Frag} {mu : Addr → Prop} {H : Hp}
theorem pairs_ok : ∀ {xs : List V} {ds : List PyData} {prs : List (Key × PyData)}, DtAll K mu H xs ds → pairsOf ds = some prs →
    ∃ (ps : List Addr) (kvs : List (Key × V)), xs = ps.map V.ref ∧ Paired (fun p kv => SqT K H p [kV kv.1, kv.2]) ps kvs ∧ DtKv K mu H kvs (prs.map fun p => (kD p.1, p.2))
  | _, [], _, .nil, e => by cases e; exact ⟨[], [], rfl, .nil, .nil⟩
  | _, d :: r, prs, .cons h t, e => by
    unfold pairsOf at e
    split at e
    · rename_i q; cases q
    · rename_i k d' r' q
      cases q
      simp only [Option.bind_eq_some_iff, Option.map_eq_some_iff] at e
      obtain ⟨kk, e1, prs', e2, rfl⟩ := e
      obtain ⟨ps, kvs, rfl, pr, dk⟩ := pairs_ok t e2
      obtain ⟨a, ys, rfl, hq, u⟩ := h.tuple
      cases u with
      | cons u1 u2 =>
      cases u2 with
      | cons u3 u4 =>
      cases u4
      obtain rfl := u1.keyF e1
      exact ⟨a :: ps, (kk, _) :: kvs, rfl, .cons hq pr, .cons u3 dk⟩
    · cases e
theorem merge_ok : ∀ {kvs : List (Key × V)} {prs : List (Key × PyData)} {acc : List (Key × V)} {dacc : List (PyData × PyData)}, DtKv K mu H kvs (prs.map fun p => (kD p.1, p.2)) → DtKv K mu H acc dacc → DtKv K mu H (mergeK acc kvs) (mergeF dacc prs)
  | [], [], _, _, .nil, h => h
  | (k, v) :: kvs, (k2, d) :: prs, acc, dacc, t, h => by
    rw [List.map_cons] at t
    have hk : k = k2 ∧ Dt K mu H v d ∧ DtKv K mu H kvs (prs.map fun p => (kD p.1, p.2)) := by
      generalize e : (kD k2, d) = p at t
      cases t with
      | cons h1 h2 =>
        have e1 := congrArg Prod.fst e
        have e2 := congrArg Prod.snd e
        dsimp only at e1 e2
        subst e2
        have := kOf_kD k2
        rw [e1, kOf_kD] at this
        exact ⟨Option.some.inj this, h1, h2⟩
    obtain ⟨rfl, h1, h2⟩ := hk
    show DtKv K mu H (mergeK (putK acc k v) kvs) (mergeF (putF dacc k d) prs)
    exact merge_ok h2 (h.put k h1)
theorem ok_dictP : CallOk K (fun xs H Q => ∃ (a : Addr) (ps : List Addr) (kvs : List (Key × V)), xs = [.ref a] ∧ SqL K H a (ps.map V.ref) ∧ Paired (fun p kv => SqT K H p [kV kv.1, kv.2]) ps kvs ∧ ∀ p, H p = none → Q (.ref p) (upd H p (.dK (mergeK [] kvs)))) gDictP := fun mu H xs ds d Q hm t e k => by
  unfold gDictP at e
  split at e
  · simp only [Option.map_eq_some_iff] at e
    obtain ⟨prs, e1, rfl⟩ := e
    obtain ⟨x, rfl, t1⟩ := one_of t
    obtain ⟨a, ys, rfl, hq, u⟩ := t1.list
    obtain ⟨ps, kvs, rfl, pr, dk⟩ := pairs_ok u e1
    refine ⟨a, ps, kvs, rfl, hq, pr, fun p hp => k _ _ (grow_new hp) ?_⟩
    exact .dct upd_same (nomu_new hm hp) ((merge_ok dk .nil).mono (kp_grow (grow_new hp)))
  · cases e
end

/-! ### dicts that are written out -/
def lfE (K : PySem.W.Frag) (f : DE) : TE := fun σ H Q => ∃ Z, lft K Z f σ H Q
theorem pe_E {X : Cx} {e : Expr} {f : DE} (h : ∀ Z, PE X e (lft X.K Z f)) : PE X e (lfE X.K f) := ⟨fun pins s σ H Q I ⟨Z, q⟩ => (h Z).run pins s σ H Q I q⟩
def runP : List (DE × DE) → Sl → Option (List (PyData × PyData) × Sl)
  | [], s => some ([], s)
  | (f, g) :: r, s => (f s).bind fun p => (g p.2).bind fun q => (runP r q.2).map fun w => ((p.1, q.1) :: w.1, w.2)
inductive DtP (K : PySem.W.Frag) (mu : Addr → Prop) (H : Hp) : List (V × V) → List (PyData × PyData) → Prop
  | nil : DtP K mu H [] []
  | cons {x y : V} {a b : PyData} {ps : List (V × V)} {ds : List (PyData × PyData)} : Dt K mu H x a → Dt K mu H y b → DtP K mu H ps ds → DtP K mu H ((x, y) :: ps) ((a, b) :: ds)
theorem lift_pairs {K : PySem.W.Frag} {Z : Par} {M : List Addr} {σ : L2.St} : ∀ (fs : List (DE × DE)) {H : Hp} {s s' : Sl} {prs : List (PyData × PyData)} {Q : List (V × V) → Hp → Prop}, Rel K Z M σ H s → runP fs s = some (prs, s') →
    (∀ ps H', Kq Z M H M H' → Rel K Z M σ H' s' → DtP K (Mu Z M) H' ps prs → Q ps H') → tPairs (fs.map fun p => (lfE K p.1, lfE K p.2)) σ H Q
  | [], H, s, s', prs, Q, rl, e, k => by cases e; exact k [] H (Kq.refl _ _ _) rl .nil
  | (f, g) :: r, H, s, s', prs, Q, rl, e, k => by
    unfold runP at e
    simp only [Option.bind_eq_some_iff, Option.map_eq_some_iff] at e
    obtain ⟨⟨d1, s1⟩, e1, ⟨d2, s2⟩, e2, ⟨ws, s3⟩, e3, e4⟩ := e
    cases e4
    refine ⟨Z, M, s, d1, s1, rl, e1, fun x H1 k1 r1 t1 => ⟨Z, M, s1, d2, s2, r1, e2, fun y H2 k2 r2 t2 => ?_⟩⟩
    exact lift_pairs r r2 e3 fun ps H3 k3 r3 t3 => k _ H3 (k1.trans (k2.trans k3)) r3 (.cons (t1.mono (k2.trans k3).kp) (t2.mono k3.kp) t3)
def flatPs : List (PyData × PyData) → Option (List (Key × PyData))
  | [] => some []
  | (k, d) :: r => (kOf k).bind fun kk => (flatPs r).map ((kk, d) :: ·)
def tupPs : List (PyData × PyData) → Option (List (List Key × PyData))
  | [] => some []
  | (k, d) :: r => (keyT k).bind fun kk => (tupPs r).map ((kk, d) :: ·)
/-- {k: v, ..} by numbers and texts -/
def dDispK (fs : List (DE × DE)) : DE := fun s => (runP fs s).bind fun q => (flatPs q.1).bind fun ps => if ps.length ≤ 15 then some (.dict (mergeF [] ps), q.2) else none
/-- .. by tuples, no key twice -/
def dDispT (fs : List (DE × DE)) : DE := fun s => (runP fs s).bind fun q => (tupPs q.1).bind fun ps => if ps.length ≤ 15 ∧ (ps.map (·.1)).Nodup then some (.dict ((.none, .none) :: kvD ps), q.2) else none
theorem DtP.flat {K : PySem.W.Frag} {mu : Addr → Prop} {H : Hp} : ∀ {ps : List (V × V)} {ds : List (PyData × PyData)} {prs : List (Key × PyData)}, DtP K mu H ps ds → flatPs ds = some prs →
    ∃ kvs : List (Key × V), ps = kvs.map (fun kv => (kV kv.1, kv.2)) ∧ kvs.length = prs.length ∧ DtKv K mu H kvs (prs.map fun p => (kD p.1, p.2))
  | _, _, _, .nil, e => by cases e; exact ⟨[], rfl, rfl, .nil⟩
  | _, _, prs, .cons h g t, e => by
    unfold flatPs at e
    simp only [Option.bind_eq_some_iff, Option.map_eq_some_iff] at e
    obtain ⟨kk, e1, prs', e2, rfl⟩ := e
    obtain ⟨kvs, rfl, l, dk⟩ := t.flat e2
    obtain rfl := h.keyF e1
    exact ⟨(kk, _) :: kvs, rfl, by rw [List.length_cons, List.length_cons, l], .cons g dk⟩
theorem DtP.tup {K : PySem.W.Frag} {mu : Addr → Prop} {H : Hp} : ∀ {ps : List (V × V)} {ds : List (PyData × PyData)} {prs : List (List Key × PyData)}, DtP K mu H ps ds → tupPs ds = some prs →
    ∃ xs : List (List Key × Addr × V), ps = xs.map (fun x => (V.ref x.2.1, x.2.2)) ∧ (∀ x ∈ xs, H x.2.1 = some (.tup (x.1.map kV))) ∧ xs.map (·.1) = prs.map (·.1) ∧ DtKT K mu H (xs.map fun x => (x.1, x.2.2)) prs
  | _, _, _, .nil, e => by cases e; exact ⟨[], rfl, fun x hx => (by cases hx), rfl, .nil⟩
  | _, _, prs, .cons h g t, e => by
    unfold tupPs at e
    simp only [Option.bind_eq_some_iff, Option.map_eq_some_iff] at e
    obtain ⟨kk, e1, prs', e2, rfl⟩ := e
    obtain ⟨xs, rfl, hx, l, dk⟩ := t.tup e2
    obtain ⟨b, rfl, hb⟩ := h.keyT e1
    refine ⟨(kk, b, _) :: xs, rfl, fun x hm => ?_, by rw [List.map_cons, List.map_cons, l], .cons g dk⟩
    rcases List.mem_cons.mp hm with z | z
    · rw [z]; exact hb
    · exact hx x z
section
variable {X : Cx} {Z : Par} {pos : Pos} {keys : List (Option Expr)} {values : List Expr} {fs : List (DE × DE)}
theorem ddispK (h : PPs X pos keys values (fs.map fun p => (lfE X.K p.1, lfE X.K p.2))) (hall : keys.all (·.isSome) = true := by rfl) (hl : keys.length = values.length := by rfl) (h0 : keys ≠ [] := by exact fun z => by cases z) (h15 : keys.length ≤ 15 := by decide) :
    PE X (.Dict keys values pos) (lft X.K Z (dDispK fs)) := PEimp (pe_disp h hall hl h0 h15) fun σ H Q q => by
  obtain ⟨M, s, d, s', rl, hf, k⟩ := q
  unfold dDispK at hf
  simp only [Option.bind_eq_some_iff] at hf
  obtain ⟨⟨prs, s1⟩, e1, ps, e2, e3⟩ := hf
  dsimp only at e2 e3
  split at e3
  case isFalse => cases e3
  rename_i few
  cases e3
  intro p hp
  have npp : Z.p ≠ some p := fun z => by
    obtain ⟨o, e⟩ := rl.pt p z
    rw [hp] at e; cases e
  have nm : p ∉ M := fun z => by
    obtain ⟨_, _, _, o, e⟩ := rl.fr p z
    rw [hp] at e; cases e
  have n0 : Z.H0 p = none := by
    cases q : Z.H0 p with
    | none => rfl
    | some o =>
      have := rl.base p o q npp
      rw [hp] at this; cases this
  refine lift_pairs fs (rl.addNew hp (.dK [])) e1 fun vs H2 k2 r2 tp => ?_
  obtain ⟨kvs, rfl, l, dk⟩ := tp.flat e2
  have h2 : H2 p = some (.dK []) := (k2 p _ upd_same npp nm).1
  refine ⟨h2, kvs, rfl, by rw [l]; exact few, ?_⟩
  have r3 := (r2.wrAdd npp (.dK (mergeK [] kvs)) n0).unadd
  have np : ¬ Mu Z M p := fun z => by
    obtain ⟨o, e⟩ := rl.muT p z
    rw [hp] at e; cases e
  have kk : Kq Z M H M (upd H2 p (.dK (mergeK [] kvs))) := fun a o e n1 n2 => ⟨by
    have na := ne_of_none e hp
    rw [upd_ne na]
    exact (k2 a o (grow_new hp a o e) n1 n2).1, n2⟩
  refine k _ _ kk r3 (.dct upd_same np ?_)
  refine (merge_ok dk .nil).mono fun a o e n => ⟨?_, fun z => n (mu_add.mpr (.inl z))⟩
  have na : a ≠ p := fun z => n (mu_add.mpr (.inr z))
  rw [upd_ne na]
  exact e
def tDispT (trs : List (TE × TE)) : TE := fun σ H Q => ∀ p, H p = none → tPairs trs σ (upd H p (.dT [])) fun ps H2 => H2 p = some (.dT []) ∧ ∃ xs : List (List Key × Addr × V), ps = xs.map (fun x => (V.ref x.2.1, x.2.2)) ∧ (∀ x ∈ xs, H2 x.2.1 = some (.tup (x.1.map kV))) ∧
  (xs.map (·.1)).Nodup ∧ xs.length ≤ 15 ∧ Q (.ref p) (upd H2 p (.dT (xs.map fun x => (x.1, x.2.2))))
theorem carries_ofT {P : Program} {w : World} {H : Hp} {h : Heap} (ok : HOk P w H h) : ∀ {xs : List (List Key × Addr × V)} {ws : List (Value × Value)}, VV (xs.map fun x => (V.ref x.2.1, x.2.2)) ws → (∀ x ∈ xs, H x.2.1 = some (.tup (x.1.map kV))) →
    ∃ rs : List (List Key × Addr × Value), CarriesH (tupleKind (mixKind P w)) h ws rs ∧ rs.map (·.1) = xs.map (·.1) ∧ Paired (fun (p : List Key × V) (q : List Key × Addr × Value) => p.1 = q.1 ∧ H q.2.1 = some (.tup (p.1.map kV)) ∧ RelV p.2 q.2.2) (xs.map fun x => (x.1, x.2.2)) rs
  | [], _, r, _ => by rw [List.map_nil] at r; cases r; exact ⟨[], True.intro, rfl, .nil⟩
  | x :: xs, _, r, hx => by
    rw [List.map_cons] at r
    cases r with
    | @cons a b as bs h t =>
      obtain ⟨rs, c, m, q⟩ := carries_ofT ok t fun y hy => hx y (List.mem_cons_of_mem _ hy)
      obtain ⟨b1, b2⟩ := b
      have hb := hx x List.mem_cons_self
      exact ⟨(x.1, x.2.1, b2) :: rs, ⟨h.1, rfl, key_of ok hb, c⟩, by rw [List.map_cons, List.map_cons, m], .cons ⟨rfl, hb, h.2⟩ q⟩
theorem pe_dispT {trs : List (TE × TE)} (hu : X.A.units + 1 < cLine) (h : PPs X pos keys values trs) (hall : keys.all (·.isSome) = true) (hl : keys.length = values.length) (h0 : keys ≠ []) (h15 : keys.length ≤ 15) : PE X (.Dict keys values pos) (tDispT trs) := by
  refine ⟨fun pins s σ H Q I q => ?_⟩
  have hn := I.hok.fresh (Nat.le_refl s.heap.objs.size)
  have I1 := I.laid (a := s.heap.objs.size) (o := .dT []) (h' := s.heap.push { cls := .type "dict", data := .dict #[] }) (t' := s.toks) (fun _ _ q => Heap.get?_push_of_some _ q) (Nat.le_refl _) (dt_empty s.heap I.big)
  have hlen := pairTrees_length keys values X.env pos hall hl
  have hne : pairTrees keys values X.env pos ≠ [] := fun z => by
    rw [z] at hlen
    exact h0 (List.length_eq_zero_iff.mp hlen.symm)
  rw [arm_eval_Dict, zip_pairTrees keys values X.env pos hall hl, dictDisplay_pairs _ hne (by omega)]
  refine wpAny_bind (wpAny_standAt (wpAny_bind (wpAny_subDictH (knd := tupleKind (mixKind X.prog X.w)) (Q := fun d s' => wpAny (model X.prog X.w) X.A (pure (Value.ref d)) (EP X pins σ Q) X.xe s') ?_ (by omega)
    (thn (h.run pins _ σ _ _ I1 (q _ hn)) fun ws s2 ⟨ps, H2, I2, rel, e, xs, ep, hx, nd, few, q2⟩ => ?_))))
  · exact (show (tupleKind (mixKind X.prog X.w)).room X.A from by
      have : X.A.units < cLine := by omega
      exact this)
  · subst ep
    obtain ⟨rs, c, m, pr⟩ := carries_ofT I2.hok rel hx
    obtain ⟨z, hd, xs0, r0, dd⟩ := dt_of I2.hok e
    cases r0
    refine ⟨rs, c, dd, fun h' tk dd' hs => wpAny_pure ⟨.ref s.heap.objs.size, _, ?_, rfl, q2⟩⟩
    rw [storedAllH_nil_of_nodup rs (by rw [m]; exact nd)] at dd'
    obtain ⟨o, es, ep, h1, h2, h3, h4, h5, h6⟩ := dd'
    refine d_write I2 (by rw [e]; exact True.intro) hs ⟨o, h1⟩ ⟨by rw [List.length_map, sizeLine_eq]; omega, hd, rs, ?_, o, es, ep, h1, h2, h3, h4, h6⟩
    exact Paired.mapP pr fun p q r => ⟨r.1, by rw [upd_ne (ne_of r.2.1 e (fun z => nomatch z))]; exact r.2.1, r.2.2⟩
theorem ddispT (hu : X.A.units + 1 < cLine) (h : PPs X pos keys values (fs.map fun p => (lfE X.K p.1, lfE X.K p.2))) (hall : keys.all (·.isSome) = true := by rfl) (hl : keys.length = values.length := by rfl) (h0 : keys ≠ [] := by exact fun z => by cases z) (h15 : keys.length ≤ 15 := by decide) :
    PE X (.Dict keys values pos) (lft X.K Z (dDispT fs)) := PEimp (pe_dispT hu h hall hl h0 h15) fun σ H Q q => by
  obtain ⟨M, s, d, s', rl, hf, k⟩ := q
  unfold dDispT at hf
  simp only [Option.bind_eq_some_iff] at hf
  obtain ⟨⟨prs, s1⟩, e1, ps, e2, e3⟩ := hf
  dsimp only at e2 e3
  split at e3
  case isFalse => cases e3
  rename_i few
  cases e3
  intro p hp
  have npp : Z.p ≠ some p := fun z => by
    obtain ⟨o, e⟩ := rl.pt p z
    rw [hp] at e; cases e
  have nm : p ∉ M := fun z => by
    obtain ⟨_, _, _, o, e⟩ := rl.fr p z
    rw [hp] at e; cases e
  have n0 : Z.H0 p = none := by
    cases q : Z.H0 p with
    | none => rfl
    | some o =>
      have := rl.base p o q npp
      rw [hp] at this; cases this
  refine lift_pairs fs (rl.addNew hp (.dT [])) e1 fun vs H2 k2 r2 tp => ?_
  obtain ⟨xs, rfl, hx, l, dk⟩ := tp.tup e2
  have h2 : H2 p = some (.dT []) := (k2 p _ upd_same npp nm).1
  have ll : xs.length = ps.length := by have := congrArg List.length l; simpa using this
  refine ⟨h2, xs, rfl, hx, by rw [l]; exact few.2, by rw [ll]; exact few.1, ?_⟩
  have r3 := (r2.wrAdd npp (.dT (xs.map fun x => (x.1, x.2.2))) n0).unadd
  have np : ¬ Mu Z M p := fun z => by
    obtain ⟨o, e⟩ := rl.muT p z
    rw [hp] at e; cases e
  have kk : Kq Z M H M (upd H2 p (.dT (xs.map fun x => (x.1, x.2.2)))) := fun a o e n1 n2 => ⟨by
    have na := ne_of_none e hp
    rw [upd_ne na]
    exact (k2 a o (grow_new hp a o e) n1 n2).1, n2⟩
  refine k _ _ kk r3 (.dcT upd_same np ?_)
  refine dk.mono fun a o e n => ⟨?_, fun z => n (mu_add.mpr (.inl z))⟩
  have na : a ≠ p := fun z => n (mu_add.mpr (.inr z))
  rw [upd_ne na]
  exact e
end
end Dl

/-! ### defs with constants as defaults, called by places and by names -/
namespace Dl
open PySem PySem.Spec PyProof.Rows L2
def StdD (K : PySem.W.Frag) (mg : Str → Option Value) (x : Str) (st : Stmt) (dvs : List V) : Prop := ∃ (f : Addr) (fd : FuncData), FunD K x x (defArgs st) (defBody st) (defScope st) dvs [] f fd ∧ mg x = some (.ref f)
def CalD (P : Program) (w : World) (K : PySem.W.Frag) (mg : Str → Option Value) (base : Heap) (k : Nat) (x : Str) (st : Stmt) (ps : List Str) (sp : Sp) (dvs : List V) : Prop := ∃ (f : Addr) (fd : FuncData), FunD K x x (defArgs st) (defBody st) (defScope st) dvs [] f fd ∧ FnOk P w K mg base (L2.CX P w) k f fd ps sp ∧ mg x = some (.ref f)
/-- called by places, dvs filling up -/
def CalQ (P : Program) (w : World) (K : PySem.W.Frag) (mg : Str → Option Value) (base : Heap) (k : Nat) (x : Str) (ps : List Str) (sp : Sp) (dvs : List V) : Prop := ∃ (f : Addr) (fd : FuncData) (ds : List Value), FnOk P w K mg base (L2.CX P w) k f fd ps sp ∧ mg x = some (.ref f) ∧ PySem.W.keepIn K (.ref f) = true ∧ Vals dvs ds ∧ Binds K fd ps ds
/-- called by places and names -/
def CalK (P : Program) (w : World) (K : PySem.W.Frag) (mg : Str → Option Value) (base : Heap) (k : Nat) (x : Str) (ps : List Str) (sp : Sp) (n : Nat) (ks : List Str) (gV : List V → List V → List V) : Prop := ∃ (f : Addr) (fd : FuncData) (g : List Value → List Value → List Value), FnOk P w K mg base (L2.CX P w) k f fd ps sp ∧ mg x = some (.ref f) ∧ PySem.W.keepIn K (.ref f) = true ∧ KBn K fd ps n ks g gV
/-- which value stands where: 0 of the places, 1 of the defaults, 2 of the names -/
def pick {α : Type} (ps : List (Nat × Nat)) (us ds zs : List α) : List α := ps.filterMap fun c => match c.1 with
  | 0 => us[c.2]?
  | 1 => ds[c.2]?
  | _ => zs[c.2]?
theorem pair_get {α β : Type} {R : α → β → Prop} : ∀ {xs : List α} {us : List β} (_ : Paired R xs us) (i : Nat), (xs[i]? = none ∧ us[i]? = none) ∨ ∃ x u, xs[i]? = some x ∧ us[i]? = some u ∧ R x u
  | _, _, .nil, i => .inl ⟨by simp, by simp⟩
  | _, _, .cons r t, 0 => .inr ⟨_, _, rfl, rfl, r⟩
  | _, _, .cons r t, i + 1 => by
    rcases pair_get t i with ⟨a, b⟩ | ⟨x, u, a, b, c⟩
    · exact .inl ⟨by simpa using a, by simpa using b⟩
    · exact .inr ⟨x, u, by simpa using a, by simpa using b, c⟩
theorem dt_get {K : PySem.W.Frag} {mu : Addr → Prop} {H : Hp} : ∀ {xs : List V} {us : List PyData} (_ : DtAll K mu H xs us) (i : Nat), (xs[i]? = none ∧ us[i]? = none) ∨ ∃ x u, xs[i]? = some x ∧ us[i]? = some u ∧ Dt K mu H x u
  | _, _, .nil, i => .inl ⟨by simp, by simp⟩
  | _, _, .cons r t, 0 => .inr ⟨_, _, rfl, rfl, r⟩
  | _, _, .cons r t, i + 1 => by
    rcases dt_get t i with ⟨a, b⟩ | ⟨x, u, a, b, c⟩
    · exact .inl ⟨by simpa using a, by simpa using b⟩
    · exact .inr ⟨x, u, by simpa using a, by simpa using b, c⟩
theorem pair_pick {α β : Type} {R : α → β → Prop} {us ds zs : List α} {us' ds' zs' : List β} (a : Paired R us us') (b : Paired R ds ds') (c : Paired R zs zs') : ∀ ps : List (Nat × Nat), Paired R (pick ps us ds zs) (pick ps us' ds' zs')
  | [] => .nil
  | (m, i) :: ps => by
    have ih := pair_pick a b c ps
    unfold pick at ih ⊢
    have : ∀ {p : Option α} {q : Option β}, ((p = none ∧ q = none) ∨ ∃ x u, p = some x ∧ q = some u ∧ R x u) → ∀ {f : Nat × Nat → Option α} {g : Nat × Nat → Option β}, f (m, i) = p → g (m, i) = q → Paired R (ps.filterMap f) (ps.filterMap g) → Paired R (((m, i) :: ps).filterMap f) (((m, i) :: ps).filterMap g) := by
      intro p q h f g e1 e2 h2
      rcases h with ⟨rfl, rfl⟩ | ⟨x, u, rfl, rfl, r⟩
      · rw [List.filterMap_cons, List.filterMap_cons, e1, e2]; exact h2
      · rw [List.filterMap_cons, List.filterMap_cons, e1, e2]; exact .cons r h2
    match m with
    | 0 => exact this (pair_get a i) rfl rfl ih
    | 1 => exact this (pair_get b i) rfl rfl ih
    | m + 2 => exact this (pair_get c i) rfl rfl ih
theorem dt_pick {K : PySem.W.Frag} {mu : Addr → Prop} {H : Hp} {us ds zs : List V} {us' ds' zs' : List PyData} (a : DtAll K mu H us us') (b : DtAll K mu H ds ds') (c : DtAll K mu H zs zs') : ∀ ps : List (Nat × Nat), DtAll K mu H (pick ps us ds zs) (pick ps us' ds' zs')
  | [] => .nil
  | (m, i) :: ps => by
    have ih := dt_pick a b c ps
    unfold pick at ih ⊢
    have : ∀ {p : Option V} {q : Option PyData}, ((p = none ∧ q = none) ∨ ∃ x u, p = some x ∧ q = some u ∧ Dt K mu H x u) → ∀ {f : Nat × Nat → Option V} {g : Nat × Nat → Option PyData}, f (m, i) = p → g (m, i) = q → DtAll K mu H (ps.filterMap f) (ps.filterMap g) → DtAll K mu H (((m, i) :: ps).filterMap f) (((m, i) :: ps).filterMap g) := by
      intro p q h f g e1 e2 h2
      rcases h with ⟨rfl, rfl⟩ | ⟨x, u, rfl, rfl, r⟩
      · rw [List.filterMap_cons, List.filterMap_cons, e1, e2]; exact h2
      · rw [List.filterMap_cons, List.filterMap_cons, e1, e2]; exact .cons r h2
    match m with
    | 0 => exact this (dt_get a i) rfl rfl ih
    | 1 => exact this (dt_get b i) rfl rfl ih
    | m + 2 => exact this (dt_get c i) rfl rfl ih
section
variable {P : Program} {w : World} {K : PySem.W.Frag} {mg : Str → Option Value} {base : Heap}
theorem okXD {x qual : Str} {params : Arguments} {body : List Stmt} {scope : Scope} {dvs : List V} {kws : List (Str × V)} {f : Addr} {fd : FuncData} {N ps : List Str} {k : Nat} {b : DSx} (F : FunD K x qual params body scope dvs kws f fd) (S : FnScope N ps scope)
    (hb : ∀ (cdv : Value) (A : Around) (outer : List Env) (s : Shared) (H : Hp) (E : XK) (Z : Par), Room k (A.deeper (envOfC qual scope s.heap.objs.size f cdv)) → PSs (cxOf (L2.CX P w) P w K mg base N qual scope f cdv A outer s H E) body (lfSx K mg Z (fun cls d _ H => E cls d H) b)) :
    FnOk P w K mg base (L2.CX P w) (k + 1) f fd ps (spX K mg (fnX N ps.length b)) := by
  refine F.ok (CX := L2.CX P w) S (fun vs H Q E h => ?_) (fun cdv A outer s H vs Q E hr h => ?_)
  · obtain ⟨mu, ds, d, h1, h2, h3, h4⟩ := h
    unfold fnX at h3
    split at h3
    · rename_i hl
      rw [h2.len]; exact hl
    · cases h3
  · obtain ⟨mu, ds, d, h1, h2, h3, h4⟩ := h
    unfold fnX at h3
    split at h3
    case isFalse => cases h3
    rename_i hl
    let Z : Par := ⟨H, none, mu⟩
    refine ⟨_, hb cdv A outer s H E Z hr, [], startS N ds, ?_⟩
    have muE : ∀ a, Mu Z [] a → mu a := fun a q => by
      rcases q with q | q | q
      · exact q
      · cases q
      · cases q
    have r : Rel K Z [] (start N vs) H (startS N ds) := by
      refine ⟨fun a o e _ => e, fun a ha => (by cases ha), h1, fun a ha => (by cases ha), ?_⟩
      unfold startS L2.start
      rw [h2.len]
      exact slAll_start _ (h2.mono fun a o e n => ⟨e, fun z => n (muE a z)⟩)
    unfold outX at h3
    split at h3
    · rename_i d1 s1 hq
      cases h3
      refine ⟨_, r, hq, fun M σ H1 v k1 r1 t1 => h4 v H1 (fun a o e => r1.base a o e (fun z => by cases z)) (t1.mono fun a o e n => ⟨e, fun z => n (.inl z)⟩)⟩
    · rename_i s1 hq
      cases h3
      refine ⟨_, r, hq, fun M σ H1 k1 r1 => h4 _ H1 (fun a o e => r1.base a o e (fun z => by cases z)) .non⟩
    · rename_i c s1 hq
      cases h3
      exact ⟨_, r, hq, fun C M σ H' hm k1 r1 => h4 C H' hm fun a o e => r1.base a o e fun z => by cases z⟩
    · cases h3
theorem calD {x : Str} {st : Stmt} {N ps : List Str} {k : Nat} {b : DSx} {dvs : List V} (F : StdD K mg x st dvs) (S : FnScope N ps (defScope st))
    (hb : ∀ (f : Addr) (cdv : Value) (A : Around) (outer : List Env) (s : Shared) (H : Hp) (E : XK) (Z : Par), Room k (A.deeper (envOfC x (defScope st) s.heap.objs.size f cdv)) → PSs (cxOf (L2.CX P w) P w K mg base N x (defScope st) f cdv A outer s H E) (defBody st) (lfSx K mg Z (fun cls d _ H => E cls d H) b)) :
    CalD P w K mg base (k + 1) x st ps (spX K mg (fnX N ps.length b)) dvs := by
  obtain ⟨f, fd, F, hm⟩ := F
  exact ⟨f, fd, F, okXD F S (fun cdv A outer s H E Z hr => hb f cdv A outer s H E Z hr), hm⟩
variable {x : Str} {st : Stmt} {ps : List Str} {k : Nat} {sp : Sp} {dvs : List V}
/-- n values stand in the call, the defaults behind the first j fill up -/
theorem CalD.pos (C : CalD P w K mg base k x st ps sp dvs) (n j : Nat) (hd : dvs ≠ []) (hn : n + (dvs.length - j) = ps.length)
    (h : ∀ (T : Addr) (kV doc pm : Value) (an : Option Addr) (cdv ct : Value) (us its : List Value), us.length = n → its.length = dvs.length →
      ∃ k, bindArgs (PySem.W.fnOf x x (defArgs st) (defBody st) (defScope st) (.ref T) kV doc pm an cdv ct) ⟨us, []⟩ = seqItems? (.ref T) >>= k ∧ k (some its.toArray) = pure (ps.zip (us ++ its.drop j))) : CalQ P w K mg base k x ps sp (dvs.drop j) := by
  obtain ⟨f, fd, F, ok, hm⟩ := C
  obtain ⟨ds, r, b⟩ := F.binds1 n j hd hn h
  exact ⟨f, fd, ds, ok, hm, F.kp, r, b⟩
theorem CalQ.all (C : CalQ P w K mg base k x ps sp []) : CalX P w K mg base k x ps sp := by
  obtain ⟨f, fd, ds, ok, hm, kp, r, b⟩ := C
  cases r
  exact ⟨f, fd, ok, hm, kp, b⟩
theorem CalD.kw (C : CalD P w K mg base k x st ps sp dvs) (n : Nat) (ks : List Str) (pc : List (Nat × Nat)) (hd : dvs ≠ [])
    (h : ∀ (T : Addr) (kV doc pm : Value) (an : Option Addr) (cdv ct : Value) (us its ws : List Value), us.length = n → its.length = dvs.length → ws.length = ks.length →
      ∃ k, bindArgs (PySem.W.fnOf x x (defArgs st) (defBody st) (defScope st) (.ref T) kV doc pm an cdv ct) ⟨us, ks.zip ws⟩ = seqItems? (.ref T) >>= k ∧ k (some its.toArray) = pure (ps.zip (pick pc us its ws))) : CalK P w K mg base k x ps sp n ks (fun vs zs => pick pc vs dvs zs) := by
  obtain ⟨f, fd, F, ok, hm⟩ := C
  obtain ⟨its, b⟩ := F.kbindsD n ks (fun us ds zs => pick pc us ds zs) hd (fun a b c => pair_pick a b c pc) h
  exact ⟨f, fd, _, ok, hm, F.kp, b⟩
end
def withD (m : List PyData → Option PyData) (dd : List PyData) : List PyData → Option PyData := fun ds => m (ds ++ dd)
def dCallK (m : List PyData → Option PyData) (n k : Nat) (pk : List PyData → List PyData → List PyData) (ga gk : DA) : DE := fun s => (ga s).bind fun p => (gk p.2).bind fun q => if p.1.length = n ∧ q.1.length = k then (m (pk p.1 q.1)).map fun d => (d, q.2) else none
theorem PKimp {X : Cx} {e : List Keyword} {t t' : TA} (h : PK X e t) (i : ∀ σ H Q, t' σ H Q → t σ H Q) : PK X e t' := ⟨fun pos pins s σ H Q I q => h.run pos pins s σ H Q I (i σ H Q q)⟩
section
variable {X : Cx} {Z : Par} {e : Expr} {es : List Expr} {kws : List Keyword} {pos kpos : Pos} {fa : DE} {ga gk : DA} {nm : Option Str}
theorem dknil : PK X [] (lfA X.K Z aNil) := PKimp pk_nil fun σ H Q h => by
  obtain ⟨M, s, d, s', rl, hf, k⟩ := h
  cases hf
  exact k [] H (Kq.refl _ _ _) rl .nil
theorem dkcons (ha : PE X e (lft X.K Z fa)) (hb : PK X kws (lfA X.K Z gk)) : PK X (⟨nm, e, kpos⟩ :: kws) (lfA X.K Z (aCons fa gk)) := PKimp (pk_cons ha hb) fun σ H Q h => by
  obtain ⟨M, s, d, s', rl, hf, k⟩ := h
  obtain ⟨d1, s1, r, h1, h2, rfl⟩ := aCons_some hf
  exact ⟨M, s, d1, s1, rl, h1, fun v H1 k1 r1 t1 => ⟨M, s1, r, s', r1, h2, fun vs H2 k2 r2 t2 => k _ H2 (k1.trans k2) r2 (.cons (t1.mono k2.kp) t2)⟩⟩
theorem DtAll.app {K : PySem.W.Frag} {mu : Addr → Prop} {H : Hp} : ∀ {xs : List V} {us : List PyData} {ys : List V} {ws : List PyData}, DtAll K mu H xs us → DtAll K mu H ys ws → DtAll K mu H (xs ++ ys) (us ++ ws)
  | _, _, _, _, .nil, h => h
  | _, _, _, _, .cons a t, h => .cons a (t.app h)
theorem dclD {m : List PyData → Option (Rx PyData)} {j k : Nat} {x : Str} {ps : List Str} {p : Pos} {dvs : List V} {dd : List PyData} (c : CalQ X.prog X.w X.K X.mg X.base j x ps (spX X.K X.mg m) dvs) (hdt : ∀ mu H, DtAll X.K mu H dvs dd) (hr : Room k X.A) (hj : j ≤ k) (hg : Gl X x) (ha : PA X (e :: es) (lfA X.K Z ga))
    (hdb : (x == ("__debug__" : Str)) = false := by decide) (he : starEach (e :: es) X.env = (false, eval e X.env) :: starEach es X.env := by rfl) (hpl : (backTo pos (starEach es X.env)).any (·.1) = false := by rfl) :
    PE X (.Call (.Name x p) (e :: es) [] pos) (lft X.K Z (dCall (withD (okOf m) dd) ga)) := by
  obtain ⟨f, fd, ds0, F, hm, hk, hv, hb⟩ := c
  refine PEimp (pe_call F (hr.mono hj) hg hm hk hb hv (passL) ha hdb he hpl) fun σ H Q h => ?_
  obtain ⟨M, s, d, s', rl, hf, k⟩ := h
  unfold dCall withD okOf at hf
  simp only [Option.bind_eq_some_iff, Option.map_eq_some_iff] at hf
  obtain ⟨⟨ds, s1⟩, h1, d1, h2, h3⟩ := hf
  cases h3
  split at h2
  · rename_i d2 hm2
    cases h2
    refine ⟨M, s, ds, _, rl, h1, fun vs H1 k1 rl1 t1 => ?_⟩
    show spX X.K X.mg m (vs ++ dvs) H1 Q E0
    exact ⟨Mu Z M, _, _, rl1.muT, t1.app (hdt _ _), hm2, fun v H2 g2 t2 => k v H2 (k1.trans (kq_grow g2)) (rl1.grow g2) t2⟩
  · cases h2
theorem dclK {m : List PyData → Option (Rx PyData)} {j k n : Nat} {x : Str} {ps ks : List Str} {p : Pos} {dvs : List V} {dd : List PyData} {pc : List (Nat × Nat)} (c : CalK X.prog X.w X.K X.mg X.base j x ps (spX X.K X.mg m) n ks (fun vs zs => pick pc vs dvs zs)) (hdt : ∀ mu H, DtAll X.K mu H dvs dd) (hr : Room k X.A) (hj : j ≤ k) (hg : Gl X x) (ha : PA X (e :: es) (lfA X.K Z ga)) (hkw : PK X kws (lfA X.K Z gk))
    (hall : (backToKw pos (keywordEach kws X.env)).all (·.1.isSome) = true := by rfl) (hks : (backToKw pos (keywordEach kws X.env)).filterMap (·.1) = ks := by rfl)
    (hdb : (x == ("__debug__" : Str)) = false := by decide) (he : starEach (e :: es) X.env = (false, eval e X.env) :: starEach es X.env := by rfl)
    (hpl : ((backTo pos (starEach (e :: es) X.env)).any (·.1) || (backToKw pos (keywordEach kws X.env)).any (·.1.isNone)) = false := by rfl) :
    PE X (.Call (.Name x p) (e :: es) kws pos) (lft X.K Z (dCallK (okOf m) n ks.length (fun us zs => pick pc us dd zs) ga gk)) := by
  obtain ⟨f, fd, g, F, hm, hk, hb⟩ := c
  refine PEimp (pe_callN F (hr.mono hj) hg hm hk hb (passL) ha hkw hall hks hdb he hpl) fun σ H Q h => ?_
  obtain ⟨M, s, d, s', rl, hf, k⟩ := h
  unfold dCallK okOf at hf
  simp only [Option.bind_eq_some_iff] at hf
  obtain ⟨⟨ds, s1⟩, h1, ⟨zs, s2⟩, h2, h3⟩ := hf
  dsimp only at h2 h3
  split at h3
  case isFalse => cases h3
  rename_i hl
  simp only [Option.map_eq_some_iff] at h3
  obtain ⟨d1, h4, h5⟩ := h3
  cases h5
  split at h4
  · rename_i d2 hm2
    cases h4
    refine ⟨M, s, ds, _, rl, h1, fun vs H1 k1 rl1 t1 => ⟨M, s1, zs, _, rl1, h2, fun ws H2 k2 rl2 t2 => ⟨t1.len.trans hl.1, t2.len.trans hl.2, ?_⟩⟩⟩
    exact ⟨Mu Z M, _, _, rl2.muT, dt_pick (t1.mono k2.kp) (hdt _ _) t2 pc, hm2, fun v H3 g3 t3 => k v H3 ((k1.trans k2).trans (kq_grow g3)) (rl2.grow g3) t3⟩
  · cases h4
end
section
open He
variable {fa : List Fa} {fn : List DefD} {K : PySem.W.Frag} {mg : Str → Option Value} {h : Heap}
/-- a def with defaults in the head's list -/
def dOfD (x : Str) (st : Stmt) (dfl : List He.Dv) : He.DefD := ⟨(x, none), x, x, defArgs st, defBody st, defScope st, dfl, []⟩
theorem std_ofD (X : K.In h) (G : h.Ns mainGlobals mg) (c : He.SaysD fa fn K) (i j : Nat) {x : Str} {st : Stmt} {dfl : List He.Dv} {dvs : List V} (at_ : fn[i]? = some (dOfD x st dfl)) (gl : fa[j]? = some (.glo x)) (hv : dfl.map (He.Dv.v K) = dvs) : StdD K mg x st dvs := by
  obtain ⟨fd, F⟩ := c.def_ i at_
  subst hv
  exact ⟨_, fd, F, He.glo_ok X G (c.fact j gl)⟩
end
end Dl

/-! ### a def that makes texts of things: called where no text of a thing is being made -/
namespace Dl
open PySem PySem.Spec PyProof.Rows L2
def SysB (base : Heap) : Prop := ∃ o es n, base.get? sysModules = some o ∧ o.data = .dict es n
structure FnOkG (P : Program) (w : World) (K : PySem.W.Frag) (mg : Str → Option Value) (base : Heap) (k : Nat) (f : Addr) (fd : FuncData) (ps : List Str) (sp : Sp) : Prop where
  ln : ∀ vs H Q E, sp vs H Q E → vs.length = ps.length
  go : ∀ (A : Around) (fr : List Env) (t : Shared) (H : Hp) (args : Args) (us : List Value) (vs : List V) (Q : VK) (E : XK), Room k A → A.guards = some [] → Env0 P w K mg base A fr t H → BindsTo t fd args (ps.zip us) → Vals vs us → sp vs H Q E → codeAny (model P w) A (.call (.ref f) args) (CR CX0 fr P w H t Q E) t
theorem FnOkG.mono {P : Program} {w : World} {K : PySem.W.Frag} {mg : Str → Option Value} {base : Heap} {j k : Nat} {f : Addr} {fd : FuncData} {ps : List Str} {sp : Sp} (F : FnOkG P w K mg base j f fd ps sp) (h : j ≤ k) :
    FnOkG P w K mg base k f fd ps sp := ⟨F.ln, fun A fr t H args us vs Q E r => F.go A fr t H args us vs Q E (r.mono h)⟩
theorem okG {P : Program} {w : World} {K : PySem.W.Frag} {mg : Str → Option Value} {base : Heap} {x qual : Str} {st : Stmt} {f : Addr} {fd : FuncData} {N ps : List Str} {k : Nat} {sp : Sp} (F : Fun K x qual st f fd) (S : FnScope N ps (defScope st)) (ln : ∀ vs H Q E, sp vs H Q E → vs.length = ps.length)
    (bd : ∀ (cdv : Value) (A : Around) (fr : List Env) (t : Shared) (H : Hp) (vs : List V) (Q : VK) (E : XK), Room k (A.deeper (envOfC qual (defScope st) t.heap.objs.size f cdv)) → A.guards = some [] → sp vs H Q E →
      ∃ g, PSs (cxOf CX0 P w K mg base N qual (defScope st) f cdv A fr t H E).nox (defBody st) g ∧ g { nx := fun _ H' => Q .non H', rt := Q } (start N vs) H) : FnOkG P w K mg base (k + 1) f fd ps sp := by
  obtain ⟨oc, od, kV, doc, pm, an, cdv, ct, osl, rfl, at_, code⟩ := F.ex
  refine ⟨ln, fun A fr t H args us vs Q E room gd env bt r q => ?_⟩
  have kx : K.In t.heap := env.mod.kin.keeps fun b o e => (env.bs b o e).1
  have nl : t.heap.NoLimit := env.mod.nolimit.keeps fun b o e => (env.bs b o e).1
  have kinds : ∀ y ∈ ps.zip us, (defScope st).names.lookup y.1 = some .local ∨ ((defScope st).names.lookup y.1 = some .cell ∧ ((cellsFrom (t.heap.objs.size + 1) (defScope st).names []).lookup y.1).isSome = true) := by
    rintro ⟨n, v⟩ hy
    rcases S.par n (List.of_mem_zip hy).1 with z | z
    · exact .inl z
    · exact .inr ⟨z, PySem.W.cellsFrom_some _ _ _ (.inl z)⟩
  refine codeAny_call_function room.depth (kx _ _ at_) rfl S.co S.gen rfl (PySem.W.codeRec_of kx code) (bt _ _ _ _ ?_)
  refine wpAny_newFunctionEnv_cells S.kind kinds fun ev he t1 xk => ?_
  subst he
  refine ⟨nl.keeps xk.toInCall.keep, codeAny_func ?_⟩
  obtain ⟨g, pg, gq⟩ := bd cdv A fr t H vs Q E (room.deeper _) gd q
  have J : Inv (cxOf CX0 P w K mg base N qual (defScope st) f cdv A fr t H E) [] (start N vs) H t1 := inv_start S room.hd env (ln _ _ _ _ q) r xk
  have out : ∀ {σ' : L2.St} {H' : Hp} {v : V} {u : Value} {t' : Shared}, Inv (cxOf CX0 P w K mg base N qual (defScope st) f cdv A fr t H E) [] σ' H' t' → RelV v u → Q v H' → CE fr P w H t Q u t' :=
    fun {σ' H' v u t'} I rv z => ⟨v, H', I.os, I.bare, I.base, I.hok, rv, z⟩
  refine wpAny_mono (pg.nox.run [] t1 (start N vs) H _ J gq) (fun fl t' hs => ?_) fun e t' hs => hs
  match fl, hs with
  | .ret u, ⟨v, σ', H', I, rv, z⟩ => exact out I rv z
  | .next, ⟨σ', H', I, z⟩ => exact out (v := V.non) (u := Value.none) I rfl z
  | .brk, ⟨_, _, _, z⟩ => exact z.elim
  | .cont, ⟨_, _, _, z⟩ => exact z.elim
def CalG (P : Program) (w : World) (K : PySem.W.Frag) (mg : Str → Option Value) (base : Heap) (k : Nat) (x : Str) (ps : List Str) (sp : Sp) : Prop := ∃ (f : Addr) (fd : FuncData), FnOkG P w K mg base k f fd ps sp ∧ mg x = some (.ref f) ∧ PySem.W.keepIn K (.ref f) = true ∧ Binds K fd ps []
section
variable {P : Program} {w : World} {K : PySem.W.Frag} {mg : Str → Option Value} {base : Heap}
theorem calMG {x : Str} {st : Stmt} {N ps : List Str} {k : Nat} {b : DS} (F : Std K mg x st ps) (S : FnScope N ps (defScope st)) (sys : SysB base)
    (hb : ∀ (f : Addr) (cdv : Value) (A : Around) (outer : List Env) (s : Shared) (H : Hp) (E : XK) (Z : Par), Room k (A.deeper (envOfC x (defScope st) s.heap.objs.size f cdv)) → CG (cxOf CX0 P w K mg base N x (defScope st) f cdv A outer s H E).nox → PSs (cxOf CX0 P w K mg base N x (defScope st) f cdv A outer s H E).nox (defBody st) (lfS K Z b)) :
    CalG P w K mg base (k + 1) x ps (spM K (fnM N ps.length b)) := by
  obtain ⟨f, fd, F, hm, hb2⟩ := F
  refine ⟨f, fd, okG F S (fun vs H Q E h => ?_) (fun cdv A outer s H vs Q E hr gd h => ?_), hm, F.kp, hb2⟩
  · obtain ⟨mu, p, xs, pd, rest, ds, d, pd', rfl, h0, h1, h2, h3, h4, h5, h6⟩ := h
    unfold fnM at h5
    split at h5
    · rename_i hl
      rw [List.length_cons, h4.len]; exact hl
    · cases h5
  · obtain ⟨mu, p, xs, pd, rest, ds, d, pd', rfl, h0, h1, h2, h3, h4, h5, h6⟩ := h
    unfold fnM at h5
    split at h5
    case isFalse => cases h5
    rename_i hl
    let Z : Par := ⟨H, some p, mu⟩
    refine ⟨_, hb f cdv A outer s H E Z hr ⟨gd, by have := hr.un; show (A.deeper _).units + 100 < _; omega, sys⟩, [], startM N pd ds, ?_⟩
    have muE : ∀ a, Mu Z [] a → mu a := fun a q => by
      rcases q with q | q | q
      · exact q
      · cases q; exact h0
      · cases q
    have kk : Kp mu H (Mu Z []) H := fun a o e n => ⟨e, fun z => n (muE a z)⟩
    have r : Rel K Z [] (start N (.ref p :: rest)) H (startM N pd ds) := by
      refine ⟨fun a o e _ => e, fun a ha => (by cases ha), h1, fun a ha => (by cases ha; exact ⟨_, h2⟩), ?_⟩
      unfold startM L2.start
      have e : N.length - (V.ref p :: rest).length = N.length - 1 - ds.length := by rw [List.length_cons, h4.len]; omega
      rw [e]
      exact .pot rfl h2 (h3.mono kk) (slAll_start _ (h4.mono kk))
    have fin : ∀ {M : List Addr} {σ : L2.St} {H1 : Hp} {s1 : Sl} {pd1 : List PyData}, Rel K Z M σ H1 s1 → s1[0]? = some (.pot pd1) → ∃ xs1, H1 p = some (.lst xs1) ∧ DtAll K mu H1 xs1 pd1 := fun {M σ H1 s1 pd1} r1 e => by
      obtain ⟨a, xs1, _, e2, e3, e4⟩ := r1.sl.getPot e
      cases e2
      exact ⟨xs1, e3, e4.mono fun a o e n => ⟨e, fun z => n (.inl z)⟩⟩
    have bs : ∀ {M : List Addr} {σ : L2.St} {H1 : Hp} {s1 : Sl}, Rel K Z M σ H1 s1 → ∀ a o, H a = some o → a ≠ p → H1 a = some o := fun r1 a o e n => r1.base a o e (fun z => n (by cases z; rfl))
    unfold outM at h5
    split at h5
    · rename_i d1 s1 hq
      simp only [Option.map_eq_some_iff] at h5
      obtain ⟨pd1, hp, h5⟩ := h5
      cases h5
      refine ⟨_, r, hq, fun M σ H1 v k1 r1 t1 => ?_⟩
      obtain ⟨xs1, e1, e2⟩ := fin r1 (potOf_eq hp)
      exact h6 v H1 xs1 (bs r1) e1 e2 (t1.mono fun a o e n => ⟨e, fun z => n (.inl z)⟩)
    · rename_i s1 hq
      simp only [Option.map_eq_some_iff] at h5
      obtain ⟨pd1, hp, h5⟩ := h5
      cases h5
      refine ⟨_, r, hq, fun M σ H1 k1 r1 => ?_⟩
      obtain ⟨xs1, e1, e2⟩ := fin r1 (potOf_eq hp)
      exact h6 _ H1 xs1 (bs r1) e1 e2 .non
    · cases h5
end
section
variable {X : Cx} {k : Nat} {f : Addr} {fd : FuncData} {ps : List Str} {sp : Sp} {x : Str} {p pos : Pos} {e : Expr} {es : List Expr} {t : TA} {Z : Par} {ga : DA}
theorem pe_callG (F : FnOkG X.prog X.w X.K X.mg X.base k f fd ps sp) (cg : X.A.guards = some []) (hr : Room k X.A) (hg : Gl X x) (hm : X.mg x = some (.ref f)) (hk : PySem.W.keepIn X.K (.ref f) = true) (hb : Binds X.K fd ps [])
    (hx : Passes CX0 X E0) (ha : PA X (e :: es) t) (hdb : (x == ("__debug__" : Str)) = false) (he : starEach (e :: es) X.env = (false, eval e X.env) :: starEach es X.env) (hpl : (backTo pos (starEach es X.env)).any (·.1) = false) :
    PE X (.Call (.Name x p) (e :: es) [] pos) (tCall sp [] E0 t) := by
  refine ⟨fun pins s σ H Q I h => wpAny_Call_Name_kw (ld_glob I hg hm ?_ hdb)⟩
  refine PySem.W.callWith_K (h₀ := X.base) I.ok.mod.kin hk (thn (ha.run pos pins s σ H _ I h) fun us s1 ⟨vs, H1, I1, r, q⟩ => ⟨I1.kIn, ?_⟩) he hpl
  have q : sp (vs ++ []) H1 Q E0 := q
  rw [List.append_nil] at q
  have hl : us.length = ps.length := by rw [← r.length]; exact F.ln _ _ _ _ q
  refine wpAny_call (codeAny_mono (F.go X.A X.stack s1 H1 ⟨us, []⟩ us vs Q E0 hr cg I1.env0 (by have := hb s1 us I1.kIn (by rw [List.append_nil]; exact hl); rwa [List.append_nil] at this) r q) fun r s' z => ?_)
  match r, z with
  | .error e, z => exact hx pins σ H1 s1 e s' I1 z
  | .ok (.ret u), z => exact I1.after z
  | .ok .next, z => exact z.elim
  | .ok .brk, z => exact z.elim
  | .ok .cont, z => exact z.elim
theorem dclMG {j : Nat} {m : List PyData → List PyData → Option (PyData × List PyData)} (i : Nat) (c : CalG X.prog X.w X.K X.mg X.base j x ps (spM X.K m)) (cg : CG X) (hr : Room k X.A) (hj : j ≤ k) (hg : Gl X x) (h1 : PE X e (tVar i)) (ha : PA X es (lfA X.K Z ga)) (hx : Passes CX0 X E0 := by exact pass0)
    (hdb : (x == ("__debug__" : Str)) = false := by decide) (he : starEach (e :: es) X.env = (false, eval e X.env) :: starEach es X.env := by rfl) (hpl : (backTo pos (starEach es X.env)).any (·.1) = false := by rfl) :
    PE X (.Call (.Name x p) (e :: es) [] pos) (lft X.K Z (dCallM m i ga)) := by
  obtain ⟨f, fd, F, hm, hk, hb⟩ := c
  exact PEimp (pe_callG F cg.gd (hr.mono hj) hg hm hk hb hx (pa_cons h1 ha he) hdb he hpl) fun _ _ _ h => lift_callM h
end
end Dl

/-! ### walks that make new things (zip), comprehensions with several names -/
namespace Dl
open PySem PySem.Spec PyProof.Rows L2
def YieldsG (K : PySem.W.Frag) (mu : Addr → Prop) (H : Hp) (J : It) (ds : List PyData) : Prop := ∀ mu' H', Kp mu H mu' H' → (∀ a, mu' a → ∃ o, H' a = some o) → ∀ i, (i < ds.length → J.go i H' ∧ ∀ x H'', J.yld i H' x H'' → (∀ b o, H' b = some o → H'' b = some o) ∧ ∃ d, ds[i]? = some d ∧ Dt K mu' H'' x d) ∧ (ds.length ≤ i → J.stop i H')
theorem Yields.toG {K : PySem.W.Frag} {mu : Addr → Prop} {H : Hp} {J : It} {ds : List PyData} (h : Yields K mu H J ds) : YieldsG K mu H J ds := fun mu' H' k _ i => ⟨fun hi => ⟨((h mu' H' k i).1 hi).1, fun x H'' y => by
  obtain ⟨rfl, d, e, t⟩ := ((h mu' H' k i).1 hi).2 x H'' y
  exact ⟨fun _ _ z => z, d, e, t⟩⟩, (h mu' H' k i).2⟩
theorem YieldsG.mono {K : PySem.W.Frag} {mu mu' : Addr → Prop} {H H' : Hp} {J : It} {ds : List PyData} (h : YieldsG K mu H J ds) (k : Kp mu H mu' H') : YieldsG K mu' H' J ds := fun m2 H2 k2 i => h m2 H2 (k.trans k2) i
def lfIG (K : PySem.W.Frag) (Z : Par) (f : DF) : TI := fun σ H R => ∃ M s ds s', Rel K Z M σ H s ∧ f s = some (ds, s') ∧ ∀ J H', Kq Z M H M H' → Rel K Z M σ H' s' → YieldsG K (Mu Z M) H' J ds → R J H'
theorem piG {X : Cx} {Z : Par} {tg e : Expr} {ff : DF} (h : PI X tg e (lfI X.K Z ff)) : PI X tg e (lfIG X.K Z ff) := PIimp h fun σ H R q => by
  obtain ⟨M, s, ds, s', rl, hf, k⟩ := q
  exact ⟨M, s, ds, s', rl, hf, fun J H' k1 r1 y => k J H' k1 r1 y.toG⟩
def zipD : PyData → PyData → Option (List PyData)
  | .list a, .list b => some (List.zipWith (fun x y => .tuple [x, y]) a b)
  | .tuple a, .tuple b => some (List.zipWith (fun x y => .tuple [x, y]) a b)
  | _, _ => none
def itZ (f g : DE) : DF := fun s => (f s).bind fun p => (g p.2).bind fun q => (zipD p.1 q.1).map fun ds => (ds, q.2)
theorem yields_pair {K : PySem.W.Frag} {mu' : Addr → Prop} {H' H'' : Hp} {a b : List PyData} {xs ys : List V} {i : Nat} {v : V} (ta : DtAll K mu' H' xs a) (tb : DtAll K mu' H' ys b) (hm : ∀ a, mu' a → ∃ o, H' a = some o) (hi : i < (List.zipWith (fun x y => PyData.tuple [x, y]) a b).length)
    (h : ∃ T x y, v = .ref T ∧ H' T = none ∧ H'' = upd H' T (.tup [x, y]) ∧ xs[i]? = some x ∧ ys[i]? = some y) : (∀ b o, H' b = some o → H'' b = some o) ∧ ∃ d, (List.zipWith (fun x y => PyData.tuple [x, y]) a b)[i]? = some d ∧ Dt K mu' H'' v d := by
  obtain ⟨T, x, y, rfl, hT, rfl, h1, h2⟩ := h
  rw [List.length_zipWith] at hi
  have ia : i < a.length := by omega
  have ib : i < b.length := by omega
  obtain ⟨x', g1, t1⟩ := ta.get (List.getElem?_eq_getElem ia)
  obtain ⟨y', g2, t2⟩ := tb.get (List.getElem?_eq_getElem ib)
  rw [h1] at g1
  rw [h2] at g2
  cases g1
  cases g2
  refine ⟨grow_new hT, .tuple [a[i], b[i]], ?_, ?_⟩
  · rw [List.getElem?_zipWith, List.getElem?_eq_getElem ia, List.getElem?_eq_getElem ib]
  · have kk : Kp mu' H' mu' (upd H' T (.tup [x, y])) := kp_grow (grow_new hT)
    exact .tup upd_same (nomu_new hm hT) (.cons (t1.mono kk) (.cons (t2.mono kk) .nil))
theorem yields_zipL {K : PySem.W.Frag} {mu : Addr → Prop} {H : Hp} {p q : Addr} {a b : List PyData} (t : Dt K mu H (.ref p) (.list a)) (u : Dt K mu H (.ref q) (.list b)) : YieldsG K mu H (Itz K p q) (List.zipWith (fun x y => .tuple [x, y]) a b) := fun mu' H' k hm i => by
  obtain ⟨_, xs, e1, h1, h2⟩ := (t.mono k).list
  obtain ⟨_, ys, e2, h3, h4⟩ := (u.mono k).list
  cases e1
  cases e2
  refine ⟨fun hi => ?_, fun hi => ?_⟩
  · have hi' := hi
    rw [List.length_zipWith] at hi'
    obtain ⟨x, g1, _⟩ := h2.get (List.getElem?_eq_getElem (show i < a.length by omega))
    obtain ⟨y, g2, _⟩ := h4.get (List.getElem?_eq_getElem (show i < b.length by omega))
    refine ⟨⟨xs, ys, x, y, h1, h3, g1, g2⟩, fun v H'' hy => ?_⟩
    obtain ⟨T, x, y, e1, e2, e3, e4, e5⟩ := hy
    exact yields_pair h2 h4 hm hi ⟨T, x, y, e1, e2, e3, e4 xs h1, e5 ys h3⟩
  · rw [List.length_zipWith] at hi
    exact ⟨xs, ys, h1, h3, by rw [h2.len, h4.len]; omega⟩
theorem yields_zipT {K : PySem.W.Frag} {mu : Addr → Prop} {H : Hp} {p q : Addr} {a b : List PyData} (t : Dt K mu H (.ref p) (.tuple a)) (u : Dt K mu H (.ref q) (.tuple b)) : YieldsG K mu H (RZ.ItzT K p q) (List.zipWith (fun x y => .tuple [x, y]) a b) := fun mu' H' k hm i => by
  obtain ⟨_, xs, e1, h1, h2⟩ := (t.mono k).tuple
  obtain ⟨_, ys, e2, h3, h4⟩ := (u.mono k).tuple
  cases e1
  cases e2
  refine ⟨fun hi => ?_, fun hi => ?_⟩
  · have hi' := hi
    rw [List.length_zipWith] at hi'
    obtain ⟨x, g1, _⟩ := h2.get (List.getElem?_eq_getElem (show i < a.length by omega))
    obtain ⟨y, g2, _⟩ := h4.get (List.getElem?_eq_getElem (show i < b.length by omega))
    refine ⟨⟨xs, ys, x, y, h1, h3, g1, g2⟩, fun v H'' hy => ?_⟩
    obtain ⟨T, x, y, e1, e2, e3, e4, e5⟩ := hy
    exact yields_pair h2 h4 hm hi ⟨T, x, y, e1, e2, e3, e4 xs h1, e5 ys h3⟩
  · rw [List.length_zipWith] at hi
    exact ⟨xs, ys, h1, h3, by rw [h2.len, h4.len]; omega⟩
section
variable {X : Cx} {Z : Par} {tg a b e : Expr} {elts : List Expr} {kk : Nat} {pos p tpos : Pos} {fa fb : DE} {ff : DF} {f : DS} {g : TG} {gd : PyData → Sl → Option Sl}
theorem pizip (hg : Gl X "zip") (hm : X.mg "zip" = none) (ha : PE X a (lft X.K Z fa)) (hb : PE X b (lft X.K Z fb)) (hs : starEach [a, b] X.env = (false, eval a X.env) :: starEach [b] X.env := by rfl) (hs2 : starEach [b] X.env = [(false, eval b X.env)] := by rfl) (hpl : (backTo pos (starEach [b] X.env)).any (·.1) = false := by rfl) :
    PI X (.Tuple elts kk tpos) (.Call (.Name "zip" p) [a, b] [] pos) (lfIG X.K Z (itZ fa fb)) := PIimp (RZ.pi_zipA hg hm (pa_cons ha (pa_cons hb pa_nil hs2) hs) hs hpl) fun σ H R h => by
  obtain ⟨M, s, ds, s', rl, hf, k⟩ := h
  unfold itZ at hf
  simp only [Option.bind_eq_some_iff, Option.map_eq_some_iff] at hf
  obtain ⟨⟨d1, s1⟩, h1, ⟨d2, s2⟩, h2, zs, h3, h4⟩ := hf
  cases h4
  dsimp only at h2 h3
  unfold zipD at h3
  split at h3
  · cases h3
    refine ⟨M, s, _, s1, rl, h1, fun v H1 k1 r1 t1 => ⟨M, s1, _, s2, r1, h2, fun w H2 k2 r2 t2 => ?_⟩⟩
    have t1 := t1.mono k2.kp
    obtain ⟨q1, xs, rfl, g1, _⟩ := t1.list
    obtain ⟨q2, ys, rfl, g2, _⟩ := t2.list
    exact ⟨q1, q2, xs, ys, rfl, .inl ⟨g1, g2, k _ H2 (k1.trans k2) r2 (yields_zipL t1 t2)⟩⟩
  · cases h3
    refine ⟨M, s, _, s1, rl, h1, fun v H1 k1 r1 t1 => ⟨M, s1, _, s2, r1, h2, fun w H2 k2 r2 t2 => ?_⟩⟩
    have t1 := t1.mono k2.kp
    obtain ⟨q1, xs, rfl, g1, _⟩ := t1.tuple
    obtain ⟨q2, ys, rfl, g2, _⟩ := t2.tuple
    exact ⟨q1, q2, xs, ys, rfl, .inr ⟨g1, g2, k _ H2 (k1.trans k2) r2 (yields_zipT t1 t2)⟩⟩
  · cases h3
theorem lift_forG {K : PySem.W.Frag} (hg : TgOk K g gd) {D : Ends} {σ : L2.St} {H : Hp} (h : lfS K Z (sFor ff gd f) D σ H) : tFor (lfIG K Z ff) g (lfS K Z f) D σ H := by
  obtain ⟨M, s, fl, rl, hf, k⟩ := h
  unfold sFor at hf
  simp only [Option.bind_eq_some_iff] at hf
  obtain ⟨⟨ds, s1⟩, h1, h2⟩ := hf
  dsimp only at h2
  refine ⟨M, s, ds, s1, rl, h1, fun J H1 k1 r1 y => ?_⟩
  refine ⟨fun i m σ' H' => m = ds.length - i ∧ i ≤ ds.length ∧ ∃ M' s', Kq Z M H1 M' H' ∧ Rel K Z M' σ' H' s' ∧ runFor gd f (ds.drop i) s' = some fl, ⟨ds.length, by simp, Nat.zero_le _, M, s1, Kq.refl _ _ _, r1, h2⟩, ?_⟩
  rintro i m σ' H' ⟨rfl, hi, M', s', k2, r2, h3⟩
  by_cases hlt : i < ds.length
  · have ed : ds.drop i = ds[i] :: ds.drop (i + 1) := List.drop_eq_getElem_cons hlt
    rw [ed] at h3
    unfold runFor at h3
    simp only [Option.bind_eq_some_iff] at h3
    obtain ⟨s2, e1, fl1, e2, e3⟩ := h3
    refine .inr ⟨((y _ _ k2.kp r2.muT i).1 hlt).1, fun σ3 H3 => ∃ M3 s3, Kq Z M H1 M3 H3 ∧ Rel K Z M3 σ3 H3 s3 ∧ runFor gd f (ds.drop (i + 1)) s3 = some fl, fun σ3 H3 q => ⟨ds.length - (i + 1), by omega, rfl, hlt, q⟩, fun x H'' hy => ?_⟩
    obtain ⟨gr, d, e4, e5⟩ := ((y _ _ k2.kp r2.muT i).1 hlt).2 x H'' hy
    rw [List.getElem?_eq_getElem hlt] at e4
    cases e4
    have kg : Kq Z M' H' M' H'' := kq_grow gr
    refine hg Z M' σ' H'' s' s2 x _ _ (r2.grow gr) e5 e1 fun M3 σ3 r3 k3 => ?_
    refine ⟨M3, s2, fl1, r3, e2, ?_⟩
    have kk : Kq Z M H M3 _ := k1.trans (k2.trans (kg.trans k3))
    cases fl1 with
    | nx s4 => exact fun M4 σ4 H4 k4 r4 => ⟨M4, s4, k2.trans (kg.trans (k3.trans k4)), r4, e3⟩
    | ct s4 => exact fun M4 σ4 H4 k4 r4 => ⟨M4, s4, k2.trans (kg.trans (k3.trans k4)), r4, e3⟩
    | bk s4 => cases e3; exact fun M4 σ4 H4 k4 r4 => k M4 σ4 H4 (kk.trans k4) r4
    | rt d4 s4 => cases e3; exact fun M4 σ4 H4 v4 k4 r4 t4 => k M4 σ4 H4 v4 (kk.trans k4) r4 t4
  · have e : i = ds.length := by omega
    subst e
    rw [List.drop_length] at h3
    cases h3
    exact .inl ⟨(y _ _ k2.kp r2.muT _).2 (Nat.le_refl _), k M' σ' H' (k1.trans k2) r2⟩
theorem sforG {iter : Expr} {body : List Stmt} (hp : PassesOwn (model X.prog X.w) X.A X.env X.xe) (hc : X.calm = true) (hi : PI X tg iter (lfIG X.K Z ff)) (hg : PG X tg g) (hgd : TgOk X.K g gd) (hb : PSs X body (lfS X.K Z f))
    (hs : ∀ x, foldedSetIterable iter X.env x = pure x := by intro _; rfl) : PS X (.For tg iter body [] pos) (lfS X.K Z (sFor ff gd f)) := PSimp (ps_for hp hc hi hg hb hs) fun _ _ _ h => lift_forG hgd h
end
end Dl

/-! ### comprehensions with several names -/
namespace Dl
open PySem PySem.Spec PyProof.Rows L2
def fgS (s : Sl) : List Nat → Sl
  | [] => s
  | j :: r => (fgS s r).set j .no
def noOwnB (js : List Nat) (s : Sl) : Bool := js.all fun j => notOwn s[j]?
theorem noOwnB_ne {js : List Nat} {s : Sl} (h : noOwnB js s = true) : ∀ j ∈ js, NoOwn s[j]? := fun j hj => notOwn_ne (List.all_eq_true.mp h j hj)
theorem fgS_len (s : Sl) : ∀ js, (fgS s js).length = s.length
  | [] => rfl
  | j :: r => by unfold fgS; rw [List.length_set, fgS_len s r]
theorem fgS_get (s : Sl) (i : Nat) : ∀ js : List Nat, (fgS s js)[i]? = if i ∈ js ∧ i < s.length then some .no else s[i]?
  | [] => by simp [fgS]
  | j :: r => by
    unfold fgS
    rw [List.getElem?_set, fgS_get s i r, fgS_len]
    by_cases e : j = i
    · subst e
      by_cases l : j < s.length
      · simp [l]
      · simp [l, List.getElem?_eq_none (by omega : s.length ≤ j)]
    · have : i ∈ j :: r ↔ i ∈ r := by simp [Ne.symm e]
      simp [e, this]
theorem fgS_idem (s : Sl) (js : List Nat) : fgS (fgS s js) js = fgS s js := by
  apply List.ext_getElem?
  intro i
  rw [fgS_get, fgS_get, fgS_len]
  split <;> rfl
theorem fgS_no {s : Sl} {js : List Nat} (h : ∀ j ∈ js, s[j]? = some .no) : fgS s js = s := by
  apply List.ext_getElem?
  intro i
  rw [fgS_get]
  split
  · rename_i q; rw [h i q.1]
  · rfl
theorem fgS_noOwn {s : Sl} {js : List Nat} {i : Nat} (h : NoOwn s[i]?) : NoOwn (fgS s js)[i]? := by
  rw [fgS_get]
  split
  · exact ⟨fun ds e => by simp at e, fun c e => by simp at e⟩
  · exact h
theorem fgS_mem {s : Sl} {js : List Nat} {i : Nat} (hi : i ∈ js) : NoOwn (fgS s js)[i]? := by
  rw [fgS_get]
  by_cases l : i < s.length
  · rw [if_pos ⟨hi, l⟩]; exact ⟨fun ds e => by simp at e, fun c e => by simp at e⟩
  · rw [if_neg (fun q => l q.2), List.getElem?_eq_none (by omega)]; exact ⟨fun ds e => (by cases e), fun c e => (by cases e)⟩
theorem wipe_get (σ : L2.St) (i : Nat) : ∀ js : List Nat, (wipe σ js)[i]? = if i ∈ js ∧ i < σ.length then some none else σ[i]?
  | [] => by simp [wipe]
  | j :: r => by
    unfold wipe
    rw [List.getElem?_set, wipe_get σ i r, wipe_length]
    by_cases e : j = i
    · subst e
      by_cases l : j < σ.length
      · simp [l]
      · simp [l, List.getElem?_eq_none (by omega : σ.length ≤ j)]
    · have : i ∈ j :: r ↔ i ∈ r := by simp [Ne.symm e]
      simp [e, this]
theorem wipe_idem (σ : L2.St) (js : List Nat) : wipe (wipe σ js) js = wipe σ js := by
  apply List.ext_getElem?
  intro i
  rw [wipe_get, wipe_get, wipe_length]
  split <;> rfl
theorem wipe_set {σ : L2.St} {js : List Nat} {i : Nat} {x : Option V} (hi : i ∈ js) : wipe (σ.set i x) js = wipe σ js := by
  apply List.ext_getElem?
  intro k
  rw [wipe_get, wipe_get, List.length_set]
  by_cases e : i = k
  · subst e
    by_cases l : i < σ.length
    · simp [hi, l]
    · simp [l, List.getElem?_eq_none (by omega : σ.length ≤ i)]
  · rw [List.getElem?_set_ne e]
section
variable {K : PySem.W.Frag} {mu : Addr → Prop} {q : Option Addr} {H : Hp}
theorem SlAll.fg {σ : L2.St} {s : Sl} {M : List Addr} (t : SlAll K mu q H σ s M) : ∀ js : List Nat, (∀ j ∈ js, NoOwn s[j]?) → SlAll K mu q H (wipe σ js) (fgS s js) M
  | [], _ => t
  | j :: r, h => by
    unfold wipe fgS
    exact (SlAll.fg t r fun i hi => h i (List.mem_cons_of_mem _ hi)).forget j (fgS_noOwn (h j List.mem_cons_self))
theorem set_join (σ : L2.St) (j : Nat) : σ.set j (σ[j]?.join) = σ := by
  apply List.ext_getElem?
  intro i'
  by_cases e : i' = j
  · subst e
    by_cases hl : i' < σ.length
    · rw [List.getElem?_set_self hl, List.getElem?_eq_getElem hl]; rfl
    · rw [List.getElem?_eq_none (by simpa using hl), List.getElem?_eq_none (by simpa using hl)]
  · rw [List.getElem?_set_ne (Ne.symm e)]
theorem SlAll.unfg {σ : L2.St} {s : Sl} {M : List Addr} : ∀ js : List Nat, (∀ j ∈ js, j < s.length → s[j]? = some .no) → SlAll K mu q H (wipe σ js) s M → SlAll K mu q H σ s M
  | [], _, t => t
  | j :: r, h, t => by
    unfold wipe at t
    have ln : (wipe σ r).length = s.length := by rw [← t.len, List.length_set]
    refine SlAll.unfg r (fun i hi => h i (List.mem_cons_of_mem _ hi)) ?_
    by_cases l : j < s.length
    · have t2 := t.anyNo (x := (wipe σ r)[j]?.join) j (h j List.mem_cons_self l)
      rw [List.set_set, set_join] at t2
      exact t2
    · rw [List.set_eq_of_length_le (by omega)] at t
      exact t
end
/-! targets that write just these slots -/
def TgW (K : PySem.W.Frag) (js : List Nat) (g : TG) (gd : PyData → Sl → Option Sl) : Prop := ∀ (Z : Par) (M : List Addr) (σ : L2.St) (H : Hp) (s s' : Sl) (x : V) (d : PyData) (Q : L2.St → Hp → Prop), Rel K Z M σ H s → (∀ j ∈ js, NoOwn s[j]?) → Dt K (Mu Z M) H x d → gd d s = some s' →
  (∀ σ', wipe σ' js = wipe σ js → (∀ j ∈ js, NoOwn s'[j]?) → Rel K Z M σ' H s' → Q σ' H) → g x σ H Q
def TgsW (K : PySem.W.Frag) (js : List Nat) (g : TGs) (gd : List PyData → Sl → Option Sl) : Prop := ∀ (Z : Par) (M : List Addr) (σ : L2.St) (H : Hp) (s s' : Sl) (xs : List V) (ds : List PyData) (Q : L2.St → Hp → Prop), Rel K Z M σ H s → (∀ j ∈ js, NoOwn s[j]?) → DtAll K (Mu Z M) H xs ds → gd ds s = some s' →
  (∀ σ', wipe σ' js = wipe σ js → (∀ j ∈ js, NoOwn s'[j]?) → Rel K Z M σ' H s' → Q σ' H) → g xs σ H Q
section
variable {K : PySem.W.Frag} {js : List Nat}
theorem wgn {i : Nat} (hi : i ∈ js := by decide) : TgW K js (gName i) (tgN i) := fun Z M σ H s s' x d Q r no t e k => by
  cases e
  refine k _ (wipe_set hi) (fun j hj => ?_) (r.withSl (r.sl.putDat t i (no i hi)))
  by_cases e : i = j
  · subst e
    by_cases l : i < s.length
    · rw [List.getElem?_set_self l]; exact ⟨fun ds e => (by simp at e), fun c e => (by simp at e)⟩
    · rw [List.getElem?_eq_none (by simpa using l)]; exact ⟨fun ds e => (by cases e), fun c e => (by cases e)⟩
  · rw [List.getElem?_set_ne e]; exact no j hj
theorem wgsnil : TgsW K js gNil (tgTs []) := fun Z M σ H s s' xs ds Q r no t e k => by
  cases ds with
  | nil => cases t; cases e; exact ⟨rfl, k σ rfl no r⟩
  | cons _ _ => cases e
theorem wgscons {g : TG} {gs : TGs} {gd : PyData → Sl → Option Sl} {gds : List (PyData → Sl → Option Sl)} (h : TgW K js g gd) (hs : TgsW K js gs (tgTs gds)) : TgsW K js (gCons g gs) (tgTs (gd :: gds)) := fun Z M σ H s s' xs ds Q r no t e k => by
  cases ds with
  | nil => cases e
  | cons d ds =>
    cases t with
    | cons t1 t2 =>
      unfold tgTs at e
      simp only [Option.bind_eq_some_iff] at e
      obtain ⟨s1, e1, e2⟩ := e
      exact ⟨_, _, rfl, h Z M σ H s s1 _ d _ r no t1 e1 fun σ1 w1 no1 r1 => hs Z M σ1 H s1 s' _ ds _ r1 no1 t2 e2 fun σ2 w2 no2 r2 => k σ2 (w2.trans w1) no2 r2⟩
theorem wgt {n : Nat} {gs : TGs} {gds : List (PyData → Sl → Option Sl)} (hn : n = gds.length) (hs : TgsW K js gs (tgTs gds)) : TgW K js (gTup K n gs) (tgT gds) := fun Z M σ H s s' x d Q r no t e k => by
  unfold tgT at e
  split at e
  · rename_i ds
    obtain ⟨a, xs, rfl, h1, h2⟩ := t.tuple
    exact ⟨a, xs, rfl, h1, by rw [h2.len, tgTs_len e, hn], hs Z M σ H s s' xs ds Q r no h2 e k⟩
  · cases e
end
def lcRunT (js : List Nat) (gd : PyData → Sl → Option Sl) (t : DT) (f : DE) : List PyData → Sl → Option (List PyData × Sl)
  | [], s => some ([], fgS s js)
  | d :: r, s => (gd d (fgS s js)).bind fun s0 => (t s0).bind fun p => if noOwnB js p.2 = true then (if p.1 = true then (f p.2).bind fun q => if noOwnB js q.2 = true then (lcRunT js gd t f r q.2).map fun w => (q.1 :: w.1, w.2) else none else lcRunT js gd t f r p.2) else none
/-- the comprehension's slots js; what a turn leaves there is forgotten -/
def fLcT (fi : DF) (js : List Nat) (gd : PyData → Sl → Option Sl) (t : DT) (f : DE) : DF := fun s => (fi s).bind fun p => if (js.all fun j => isNo p.2[j]?) = true ∧ p.1.length < sizeLine then lcRunT js gd t f p.1 p.2 else none
section
variable {X : Cx} {Z : Par} {tg a b e : Expr} {es : List Expr} {pos : Pos} {fa fb fc : DE} {ff : DF} {t : DT} {g : TG} {gd : PyData → Sl → Option Sl}
theorem lift_lcT {K : PySem.W.Frag} {js : List Nat} {σ : L2.St} {H : Hp} {Q : VK} {T : TT} {E : TE} (hT : ∀ Z σ H Q, lfT K Z t σ H Q → T σ H Q) (hE : ∀ Z σ H Q, lft K Z fa σ H Q → E σ H Q) (hgd : TgW K js g gd) (h : lfF K Z (fLcT ff js gd t fa) σ H Q) : tLc (lfIG K Z ff) g T E js σ H Q := by
  obtain ⟨M, s, ds, s', rl, hf, k⟩ := h
  unfold fLcT at hf
  simp only [Option.bind_eq_some_iff] at hf
  obtain ⟨⟨is, s1⟩, h1, h2⟩ := hf
  dsimp only at h2
  split at h2
  case isFalse => cases h2
  rename_i hc
  have hno : ∀ j ∈ js, s1[j]? = some .no := fun j hj => isNo_eq (List.all_eq_true.mp hc.1 j hj)
  refine ⟨M, s, is, s1, rl, h1, fun J H1 k1 r1 y D hD => ?_⟩
  have hD0 : H D = none := by
    cases q : H D with
    | none => rfl
    | some o =>
      by_cases m : Mu Z M D
      · obtain ⟨u, e⟩ := r1.muT D m
        rw [hD] at e; cases e
      · have := (k1.kp D o q m).1
        rw [hD] at this; cases this
  have npp : Z.p ≠ some D := fun z => by
    obtain ⟨o, e⟩ := r1.pt D z
    rw [hD] at e; cases e
  have n0 : Z.H0 D = none := by
    cases q : Z.H0 D with
    | none => rfl
    | some o =>
      have := r1.base D o q npp
      rw [hD] at this; cases this
  let Kd : Hp → Prop := fun H' => ∀ a o, H1 a = some o → Z.p ≠ some a → a ∉ M → H' a = some o
  have kdy : ∀ {H'}, Kd H' → Kp (Mu Z M) H1 (Mu (Z.add D) M) H' := fun {H'} q a o e n => ⟨q a o e (fun z => n (.inr (.inl z))) (fun z => n (.inr (.inr z))), fun z => (mu_add.mp z).elim n (ne_of_none e hD)⟩
  let Wv : Nat → Hp → Prop := fun i H' => ∃ sw acc dacc rest, Kd H' ∧ Rel K (Z.add D) M (wipe σ js) H' (fgS sw js) ∧
    H' D = some (.lst acc) ∧ DtAll K (Mu (Z.add D) M) H' acc dacc ∧ dacc.length ≤ i ∧ lcRunT js gd t fa (is.drop i) sw = some (rest, s') ∧ ds = dacc ++ rest
  refine ⟨fun i m H' => m = is.length - i ∧ i ≤ is.length ∧ Wv i H', ⟨is.length, by simp, Nat.zero_le _, s1, [], [], ds, fun a o e _ _ => grow_new hD a o e, ?_, upd_same, .nil, Nat.le_refl _, h2, rfl⟩, ?_⟩
  · have q := r1.addNew hD (.lst [])
    exact q.withSl (q.sl.fg js fun j hj => ⟨fun ds e => (by rw [hno j hj] at e; cases e), fun c e => (by rw [hno j hj] at e; cases e)⟩)
  rintro i m H' ⟨rfl, hi, sw, acc, dacc, rest, k2, r2, e1, e2, e3, e4, e5⟩
  by_cases hlt : i < is.length
  · have ed : is.drop i = is[i] :: is.drop (i + 1) := List.drop_eq_getElem_cons hlt
    rw [ed] at e4
    unfold lcRunT at e4
    simp only [Option.bind_eq_some_iff] at e4
    obtain ⟨s0, e0, ⟨b, s3⟩, e6, e7⟩ := e4
    dsimp only at e7
    split at e7
    case isFalse => cases e7
    rename_i n3
    have yy := y _ _ (kdy k2) r2.muT i
    refine .inr ⟨(yy.1 hlt).1, Wv (i + 1), fun H3 q => ⟨is.length - (i + 1), by omega, rfl, hlt, q⟩, fun x H'' hy => ?_⟩
    obtain ⟨gr, d, e8, e9⟩ := (yy.1 hlt).2 x H'' hy
    rw [List.getElem?_eq_getElem hlt] at e8
    cases e8
    have k2 : Kd H'' := fun a o e n1 n2 => gr a o (k2 a o e n1 n2)
    have e1 : H'' D = some (.lst acc) := gr _ _ e1
    have e2 := e2.mono (kp_grow (mu := Mu (Z.add D) M) gr)
    refine hgd (Z.add D) M _ H'' _ s0 x _ _ (r2.grow gr) (fun j hj => fgS_mem hj) e9 e0 fun σ3 w3 no3 r3 => ?_
    rw [wipe_idem] at w3
    refine ⟨w3, ?_⟩
    have back : ∀ {H4 : Hp} {s4 : Sl}, Rel K (Z.add D) M σ3 H4 s4 → (∀ j ∈ js, NoOwn s4[j]?) → Rel K (Z.add D) M (wipe σ js) H4 (fgS s4 js) := fun {H4 s4} r4 hs4 => by
      have q := r4.sl.fg js hs4
      rw [w3] at q
      exact r4.withSl q
    refine hT (Z.add D) _ _ _ ⟨M, _, b, s3, r3, e6, fun H4 k4 r4 => ?_⟩
    have nDM : D ∉ M := fun z => by
      obtain ⟨_, _, _, o, e⟩ := r1.fr D z
      rw [hD] at e; cases e
    have eD4 : H4 D = some (.lst acc) := (k4 D _ e1 npp nDM).1
    have kd4 : Kd H4 := fun a o e n1 n2 => (k4 a o (k2 a o e n1 n2) n1 n2).1
    cases b with
    | true =>
      rw [if_pos rfl] at e7
      simp only [Option.bind_eq_some_iff] at e7
      obtain ⟨⟨d2, s4⟩, e10, e11⟩ := e7
      dsimp only at e11
      split at e11
      case isFalse => cases e11
      rename_i n4
      simp only [Option.map_eq_some_iff] at e11
      obtain ⟨⟨w, s5⟩, e11, e12⟩ := e11
      cases e12
      refine iteT ?_
      refine hE (Z.add D) _ _ _ ⟨M, s3, d2, s4, r4, e10, fun v H5 k5 r5 t5 => ?_⟩
      have eD5 : H5 D = some (.lst acc) := (k5 D _ eD4 npp nDM).1
      have nm : Mu (Z.add D) M D := .inl (.inr rfl)
      have kw : Kp (Mu (Z.add D) M) H5 (Mu (Z.add D) M) (upd H5 D (.lst (acc ++ [v]))) := fun a u e n => ⟨by
        have na : a ≠ D := fun z => n (by rw [z]; exact nm)
        rw [upd_ne na]; exact e, n⟩
      have lacc := e2.len
      refine ⟨acc, eD5, by omega, s4, acc ++ [v], dacc ++ [d2], w, fun a o e n1 n2 => ?_, (back r5 (noOwnB_ne n4)).wrAdd npp _ n0, upd_same, ((e2.mono (k4.kp.trans k5.kp)).append (.cons t5 .nil)).mono kw, by rw [List.length_append]; exact Nat.succ_le_succ e3, e11, by rw [e5, List.append_assoc]; rfl⟩
      have na : a ≠ D := ne_of_none e hD
      rw [upd_ne na]
      exact (k5 a o (kd4 a o e n1 n2) n1 n2).1
    | false =>
      rw [if_neg (by simp)] at e7
      refine iteF ?_
      exact ⟨s3, acc, dacc, rest, kd4, back r4 (noOwnB_ne n3), eD4, e2.mono k4.kp, by omega, e7, e5⟩
  · have e : i = is.length := by omega
    subst e
    rw [List.drop_length] at e4
    cases e4
    rw [List.append_nil] at e5
    subst e5
    refine .inl ⟨(y _ _ (kdy k2) r2.muT _).2 (Nat.le_refl _), ?_⟩
    have r3 : Rel K (Z.add D) M σ H' (fgS sw js) := r2.withSl (r2.sl.unfg js fun j hj l => by
      rw [fgS_len] at l
      rw [fgS_get, if_pos ⟨hj, l⟩])
    exact k D acc H' hD0 e1 (fun a o e n1 n2 => ⟨k2 a o (k1 a o e n1 n2).1 n1 n2, n2⟩) r3 e2
theorem flcT {elt iter : Expr} {ifs : List Expr} {scope : Scope} {own : List (Str × Nat)} {js : List Nat} (hc : X.calm = true) (hN : X.N.Nodup) (hi : PI X tg iter (lfIG X.K Z ff)) (ok : BlkOk X.N X.env.scope scope own)
    (hg : ∀ (s : Shared) (H : Hp) (C : Addr) (cl : List (Str × Addr)) (fp : List Addr), PG (X.blk s H scope (compEnvC scope cl C X.env) fp) tg g) (hgd : TgW X.K js g gd)
    (ht : ∀ (s : Shared) (H : Hp) (C : Addr) (cl : List (Str × Addr)) (fp : List Addr) (Z : Par), PTs (X.blk s H scope (compEnvC scope cl C X.env) fp) ifs (lfT X.K Z t))
    (he : ∀ (s : Shared) (H : Hp) (C : Addr) (cl : List (Str × Addr)) (fp : List Addr) (Z : Par), PE (X.blk s H scope (compEnvC scope cl C X.env) fp) elt (lft X.K Z fa)) (hs : ∀ x, foldedSetIterable iter X.env x = pure x := by intro _; rfl) (hjs : own.map (·.2) = js := by rfl) :
    PE X (.ListComp elt [⟨tg, iter, ifs, 0⟩] scope pos) (lfF X.K Z (fLcT ff js gd t fa)) := by
  subst hjs
  exact PEimp (pe_lc hc hN hi ok hg (tt := fun σ H Q => ∃ Z, lfT X.K Z t σ H Q) (te := fun σ H Q => ∃ Z, lft X.K Z fa σ H Q)
    (fun s H0 C cl fp => ⟨fun pins s' σ H Q I ⟨Z, q⟩ => (ht s H0 C cl fp Z).run pins s' σ H Q I q⟩) (fun s H0 C cl fp => ⟨fun pins s' σ H Q I ⟨Z, q⟩ => (he s H0 C cl fp Z).run pins s' σ H Q I q⟩) hs) fun σ H Q h => lift_lcT (fun Z _ _ _ q => ⟨Z, q⟩) (fun Z _ _ _ q => ⟨Z, q⟩) hgd h
theorem ssetLcT {i : Nat} {y : Str} {py : Pos} {elt iter : Expr} {ifs : List Expr} {scope : Scope} {own : List (Str × Nat)} {js : List Nat} {spos : Pos} (hc : X.calm = true) (hN : X.N.Nodup) (hy : X.N[i]? = some y) (hyl : X.env.scope.names.lookup y = some .local)
    (hsw : swapsWith (.ListComp elt [⟨tg, iter, ifs, 0⟩] scope pos) (some (.Name y py)) spos.line X.env = pure true) (hi : PI X tg iter (lfIG X.K Z ff)) (ok : BlkOk X.N X.env.scope scope own)
    (hg : ∀ (s : Shared) (H : Hp) (C : Addr) (cl : List (Str × Addr)) (fp : List Addr), PG (X.blk s H scope (compEnvC scope cl C X.env) fp) tg g) (hgd : TgW X.K js g gd)
    (ht : ∀ (s : Shared) (H : Hp) (C : Addr) (cl : List (Str × Addr)) (fp : List Addr) (Z : Par), PTs (X.blk s H scope (compEnvC scope cl C X.env) fp) ifs (lfT X.K Z t))
    (he : ∀ (s : Shared) (H : Hp) (C : Addr) (cl : List (Str × Addr)) (fp : List Addr) (Z : Par), PE (X.blk s H scope (compEnvC scope cl C X.env) fp) elt (lft X.K Z fa)) (hs : ∀ x, foldedSetIterable iter X.env x = pure x := by intro _; rfl) (hjs : own.map (·.2) = js := by rfl) :
    PS X (.Assign [.Name y py] (.ListComp elt [⟨tg, iter, ifs, 0⟩] scope pos) spos) (lfS X.K Z (sSet i (dL (fLcT ff js gd t fa)))) := by
  subst hjs
  exact PSimp (ps_setLc hc hN hy hyl hsw hi ok hg (tt := fun σ H Q => ∃ Z, lfT X.K Z t σ H Q) (te := fun σ H Q => ∃ Z, lft X.K Z fa σ H Q)
    (fun s H0 C cl fp => ⟨fun pins s' σ H Q I ⟨Z, q⟩ => (ht s H0 C cl fp Z).run pins s' σ H Q I q⟩) (fun s H0 C cl fp => ⟨fun pins s' σ H Q I ⟨Z, q⟩ => (he s H0 C cl fp Z).run pins s' σ H Q I q⟩) hs) fun D σ H h => by
    obtain ⟨M, s, fl, rl, h1, k⟩ := h
    unfold sSet dL at h1
    simp only [Option.map_eq_some_iff] at h1
    obtain ⟨⟨d, s1⟩, ⟨⟨ds, s2⟩, h1, h3⟩, h2⟩ := h1
    cases h3
    cases h2
    refine lift_lcT (Z := Z) (t := t) (fa := fa) (ff := ff) (K := X.K) (σ := σ) (H := H) (Q := fun x H1 => gName i x σ H1 D.nx) (fun Z _ _ _ q => ⟨Z, q⟩) (fun Z _ _ _ q => ⟨Z, q⟩) hgd ⟨M, s, ds, _, rl, h1, fun p xs H' hp hx k1 r1 t1 => ?_⟩
    have td : Dt X.K (Mu Z M) H' (.ref p) (.list ds) := .lst (.inl hx) (fun q => by
      obtain ⟨o, e⟩ := rl.muT p q
      rw [hp] at e; cases e) (t1.mono kp_drop)
    obtain ⟨M', _, r2, k2⟩ := r1.unadd.setDat td i
    exact k M' _ H' (k1.trans k2) r2
end
end Dl

/-! ### enumerate of a tuple -/
namespace PySem
open Sem (wp)
theorem enum_new1 {v : Value} {o : Obj} {Hh : Heap → Prop} (B : Begins v o Hh) :
    Meets (Builtin.«enumerate.__new__» ⟨[.type "enumerate", v], []⟩) (fun _ R t => Hh t.heap ∧
      R (.ok (.ret (.ref (t.heap.push o).objs.size))) { t with heap := (t.heap.push o).push { cls := .type "enumerate", data := .fields #[.none, .bool false, .ref t.heap.objs.size, rawInt 0, .none, .none] } }) :=
  .of_wp fun prog w A R t q => by
    obtain ⟨hp, g, d, tk, os⟩ := t
    obtain ⟨q1, q⟩ := q
    have sub := sub_enumerate
    have go : ∀ {A' : Around} {E : Value → Shared → Prop} {Q : Value → Shared → Prop}, Q (.ref hp.objs.size) ⟨hp.push o, g, d, tk, os⟩ → wpAny (model prog w) A' (pyIter v) Q E ⟨hp, g, d, tk, os⟩ :=
      fun z => B.iter prog w _ _ ⟨hp, g, d, tk, os⟩ _ q1 z
    wp_walk using go
    refine wpAny_stack_any fun st => wpAny_pure ?_
    split
    · rename_i c _ _ _ _ _
      cases (c == Value.type "enumerate")
      · wp_walk using go
        exact ⟨_, rfl, q⟩
      · wp_walk using go
        exact ⟨_, rfl, q⟩
    · wp_walk using go
      exact ⟨_, rfl, q⟩
section
variable {prog : Program} {w : World} {A : Around} {E : Value → Shared → Prop} {t : Shared}
theorem call_enum1 {v : Value} {o : Obj} {Hh : Heap → Prop} {Q : Value → Shared → Prop} (B : Begins v o Hh) (h1 : Hh t.heap)
    (h : ∀ h', IsEnum h' (t.heap.objs.size + 1) t.heap.objs.size 0 .none → h'.get? t.heap.objs.size = some o → h'.objs.size = t.heap.objs.size + 2 →
      (∀ b u, t.heap.get? b = some u → h'.get? b = some u) → Q (.ref (t.heap.objs.size + 1)) { t with heap := h' }) :
    wpAny (model prog w) A (call (.type "enumerate") [v]) Q E t := by
  refine callType_new F.called_enumerate (by decide) (F.typeCall_enumerate_1 _) (F.newCall_enumerate_1 _) (fun obj => F.args_object_init_2 obj _) F.entry_enumerate_new (enum_new1 B) ⟨h1, ?_⟩
  have sz : (t.heap.push o).objs.size = t.heap.objs.size + 1 := Heap.size_push ..
  show _ ∧ _
  rw [sz]
  have en : IsEnum ((t.heap.push o).push { cls := .type "enumerate", data := .fields #[.none, .bool false, .ref t.heap.objs.size, rawInt 0, .none, .none] }) (t.heap.objs.size + 1) t.heap.objs.size 0 .none := by
    have q := Heap.get?_push_size (t.heap.push o) (o := { cls := .type "enumerate", data := .fields #[.none, .bool false, .ref t.heap.objs.size, rawInt 0, .none, .none] }) rfl
    rw [sz] at q; exact q
  exact ⟨⟨_, en, rfl⟩, h _ en (Heap.get?_push_of_some _ (Heap.get?_push_size _ B.free)) (by rw [Heap.size_push, sz]) fun b u x => Heap.get?_push_of_some _ (Heap.get?_push_of_some _ x)⟩
end
end PySem
namespace Dl
open PySem PySem.Spec PyProof.Rows L2
def IteT (K : PySem.W.Frag) (a : Addr) : It :=
  ⟨fun i H => ∃ (xs : List V) (x : V), SqT K H a xs ∧ xs[i]? = some x, fun i H v H' => ∃ T x, v = .ref T ∧ H T = none ∧ H' = upd H T (.tup [.int (i : Nat), x]) ∧ ∀ xs, SqT K H a xs → xs[i]? = some x, fun i H => ∃ xs : List V, SqT K H a xs ∧ xs.length ≤ i⟩
theorem turn_enumT {P : Program} {w : World} {K : PySem.W.Frag} {elts : List Expr} {kk : Nat} {tpos : Pos} (a e it : Addr) :
    Turn P w K (.Tuple elts kk tpos) (IteT K a) [e, it] e (fun i h => (∃ old, IsEnum h e it ((i : Nat) : Int) old) ∧ h.IsTupleIter it a i ∧ e ≠ it ∧ a ≠ it ∧ a ≠ e) where
  mem := by simp
  obj := fun i h st b hb => by
    obtain ⟨⟨old, he⟩, ⟨o, ho, hc, hd⟩, _⟩ := st
    have e' : b = e ∨ b = it := by simpa using hb
    rcases e' with rfl | rfl
    · exact ⟨_, he, fun v z => nomatch z⟩
    · exact ⟨o, ho, fun v z => by rw [hd] at z; cases z⟩
  keep := fun i h h' st k => by
    obtain ⟨⟨old, he⟩, hi, ne⟩ := st
    exact ⟨⟨old, k e (by simp) _ he⟩, hi.at fun o z => k it (by simp) o z, ne⟩
  item := by
    intro X hP hw hK hc i pins s σ H E I hf st hg
    subst hP hw hK
    obtain ⟨⟨old, he⟩, hit, ne, na, nb⟩ := st
    obtain ⟨xs, x, hq, hx⟩ := hg
    obtain ⟨its, rv, p, _⟩ := I.tuple hq
    obtain ⟨u, hu, ru⟩ := rv.get hx
    have lu : i < its.toArray.size := by
      have := (List.getElem?_eq_some_iff.mp hu).1
      simpa using this
    have el : e < s.heap.objs.size := Heap.lt_size he
    have il : it < s.heap.objs.size := by obtain ⟨_, z, _⟩ := hit; exact Heap.lt_size z
    refine wpAny_pyNext_enum_itemC (Draws.tuple (by exact I.ok.hd hc) it a na its.toArray) he ⟨hit, p⟩ lu ne (by simp; exact ⟨ne, fun z => nb z.symm⟩) fun y h' tk hy ho st' hT sz k => ?_
    have ey : y = u := by
      have h1 : its.toArray[i]? = some y := hy
      have h2 : its.toArray[i]? = some u := by simpa using hu
      rw [h1] at h2
      exact Option.some.inj h2
    subst ey
    refine ⟨_, rfl, wpAny_letOwnedTupleGo_enum (s := { s with heap := h', toks := tk + 1 }) ho fun h'' he' sb => ?_⟩
    have hT2 : h''.get? s.heap.objs.size = some { cls := .type "tuple", data := .seq #[.int i tk, y] } := (sb.2 _ (Nat.ne_of_gt el)).trans hT
    have new : ObjOk X.prog X.w (upd H s.heap.objs.size (.tup [.int (i : Nat), x])) h'' s.heap.objs.size (.tup [.int (i : Nat), x]) :=
      ⟨by show 2 ≤ sizeLine; decide, [.int i tk, y], .cons ⟨_, rfl⟩ (.cons ru .nil), ⟨_, hT2, rfl, _, rfl⟩⟩
    have I1 : Inv X pins σ (upd H s.heap.objs.size (.tup [.int (i : Nat), x])) { s with heap := h'', toks := tk + 1 } :=
      I.turnedNew (ch := [e, it]) (fun b ob hb z => (sb.2 b (fun z => hb (by simp [z]))).trans (k b ob (fun z => hb (by simp [z])) (fun z => hb (by simp [z])) z)) hf (Nat.le_refl _) new
    refine ⟨.ref s.heap.objs.size, _, I1, rfl, ⟨_, x, rfl, I.hok.fresh (Nat.le_refl _), rfl, fun ys hy => by rw [I.tuple_inj hy hq]; exact hx⟩, ⟨⟨y, ?_⟩, st'.1.at fun o z => (sb.2 it (Ne.symm ne)).trans z, ne, na, nb⟩, fun b hb => ?_⟩
    · have e1 : ((i + 1 : Nat) : Int) = (i : Int) + 1 := by omega
      rw [e1]; exact he'
    · have hb' : b < s.heap.objs.size := by
        have e' : b = e ∨ b = it := by simpa using hb
        rcases e' with rfl | rfl
        · exact el
        · exact il
      rw [upd_ne (Nat.ne_of_lt hb')]
      exact (hf b hb).1
  done := by
    intro X hP hw hK hc i pins s σ H E I hf st hg
    subst hP hw hK
    obtain ⟨⟨old, he⟩, hit, ne, na, nb⟩ := st
    obtain ⟨xs, hq, hx⟩ := hg
    obtain ⟨its, rv, p, _⟩ := I.tuple hq
    obtain ⟨f0, f1, f2, f3, f4, f5⟩ := hf it (by simp)
    have hl := rv.length
    have ty : s.TypeIs (.ref e) "enumerate" := ⟨_, he, rfl⟩
    unfold pyNext
    refine wpAny_bind (wpAny_attempt (wpAny_callSpecial?_slot (name := Str.ofString "__next__") ty F.slot_enumerate_next (wpAny_call_entry F.slot_enumerate_next ty F.entry_enumerate_next ?_ (F.args_enumerate_next_1 _))))
    show wpAny _ _ (field (.ref e) 2 >>= _) _ _ _
    refine wpAny_bind (wpAny_field he rfl (x := .ref it) rfl (wpAny_bind (wpAny_nextOf_tuple_end (by exact I.ok.hd hc) hit p (by simp; omega) fun h' x eb stp => ?_)))
    obtain ⟨o, so, sc⟩ := stp
    refine wpAny_bind (wpAny_isInstance (T := "StopIteration") (b := true) ⟨o, so, sc⟩ isSubtype_stop (wpAny_pure ?_))
    exact ⟨rfl, I.turned (t' := s.toks) (fun b o hb q => eb b o hb q) f0 f1 f3 f4 f5⟩
  self := fun A i s Q E st h => let ⟨⟨_, he⟩, _⟩ := st; wpAny_pyIter_enum he h
theorem yields_enumT {K : PySem.W.Frag} {mu : Addr → Prop} {H : Hp} {p : Addr} {a : List PyData} (t : Dt K mu H (.ref p) (.tuple a)) : YieldsG K mu H (IteT K p) (List.zipWith (fun x y => .tuple [x, y]) ((List.range a.length).map fun (k : Nat) => .int (k : Int)) a) := fun mu' H' k hm i => by
  obtain ⟨_, xs, e1, h1, h2⟩ := (t.mono k).tuple
  cases e1
  have li : ∀ n, DtAll K mu' H' ((List.range n).map fun (k : Nat) => .int (k : Int)) ((List.range n).map fun (k : Nat) => .int (k : Int)) := fun n => by
    have : ∀ ks : List Nat, DtAll K mu' H' (ks.map fun (k : Nat) => .int (k : Int)) (ks.map fun (k : Nat) => .int (k : Int)) := fun ks => by
      induction ks with
      | nil => exact .nil
      | cons a r ih => exact .cons (.int _) ih
    exact this _
  refine ⟨fun hi => ?_, fun hi => ?_⟩
  · have hi' := hi
    rw [List.length_zipWith, List.length_map, List.length_range] at hi'
    obtain ⟨x, g1, _⟩ := h2.get (List.getElem?_eq_getElem (show i < a.length by omega))
    refine ⟨⟨xs, x, h1, g1⟩, fun v H'' hy => ?_⟩
    obtain ⟨T, x, e1, e2, e3, e4⟩ := hy
    refine yields_pair (li a.length) h2 hm hi ⟨T, .int (i : Nat), x, e1, e2, e3, ?_, e4 xs h1⟩
    rw [List.getElem?_map, List.getElem?_range (by omega)]
    rfl
  · rw [List.length_zipWith, List.length_map, List.length_range] at hi
    exact ⟨xs, h1, by rw [h2.len]; omega⟩
theorem yields_enumL {K : PySem.W.Frag} {mu : Addr → Prop} {H : Hp} {p : Addr} {a : List PyData} (t : Dt K mu H (.ref p) (.list a)) : YieldsG K mu H (Ite K p) (List.zipWith (fun x y => .tuple [x, y]) ((List.range a.length).map fun (k : Nat) => .int (k : Int)) a) := fun mu' H' k hm i => by
  obtain ⟨_, xs, e1, h1, h2⟩ := (t.mono k).list
  cases e1
  have li : ∀ ks : List Nat, DtAll K mu' H' (ks.map fun (k : Nat) => .int (k : Int)) (ks.map fun (k : Nat) => .int (k : Int)) := fun ks => by
    induction ks with
    | nil => exact .nil
    | cons a r ih => exact .cons (.int _) ih
  refine ⟨fun hi => ?_, fun hi => ?_⟩
  · have hi' := hi
    rw [List.length_zipWith, List.length_map, List.length_range] at hi'
    obtain ⟨x, g1, _⟩ := h2.get (List.getElem?_eq_getElem (show i < a.length by omega))
    refine ⟨⟨xs, x, h1, g1⟩, fun v H'' hy => ?_⟩
    obtain ⟨T, x, e1, e2, e3, e4⟩ := hy
    refine yields_pair (li _) h2 hm hi ⟨T, .int (i : Nat), x, e1, e2, e3, ?_, e4 xs h1⟩
    rw [List.getElem?_map, List.getElem?_range (by omega)]
    rfl
  · rw [List.length_zipWith, List.length_map, List.length_range] at hi
    exact ⟨xs, h1, by rw [h2.len]; omega⟩
/-- enumerate of a list or a tuple -/
def iEnumA (K : PySem.W.Frag) (ta : TA) : TI := fun σ H R => ta σ H fun vs H1 => ∃ a xs, vs = [.ref a] ∧ ((SqL K H1 a xs ∧ R (Ite K a) H1) ∨ (SqT K H1 a xs ∧ R (IteT K a) H1))
theorem pi_enumA {X : Cx} {e : Expr} {ta : TA} {p pos tpos : Pos} {elts : List Expr} {kk : Nat} (hg : Gl X "enumerate") (hm : X.mg "enumerate" = none) (ha : PA X [e] ta) (hs : starEach [e] X.env = [(false, eval e X.env)]) :
    PI X (.Tuple elts kk tpos) (.Call (.Name "enumerate" p) [e] [] pos) (iEnumA X.K ta) := by
  refine ⟨fun pins s σ H R I h => Call_ (ld_blt I hg hm boot_enumerate (PyProof.Rows.callWith_type1 (thn (ha.run pos pins s σ H _ I h) fun us s1 ⟨vs, H1, I1, r1, q1⟩ => ?_) hs rfl))⟩
  obtain ⟨a, xs, rfl, q1⟩ := q1
  cases r1 with
  | cons r rr =>
    cases rr
    cases r
    have fp : ∀ b ∈ [s1.heap.objs.size + 1, s1.heap.objs.size], s1.heap.objs.size ≤ b := fun b hb => by
      simp only [List.mem_cons, List.not_mem_nil, or_false] at hb
      rcases hb with rfl | rfl <;> omega
    rcases q1 with ⟨hq, q⟩ | ⟨hq, q⟩
    · obtain ⟨its, rv, p', hz⟩ := I1.list hq
      refine call_enumerate_list p'.isList fun h' he hit hsz hk => wpAny_pyIter_enum he ?_
      exact ⟨s1.heap.objs.size + 1, [s1.heap.objs.size + 1, s1.heap.objs.size], _, _, H1, rfl, I1.kept (t' := s1.toks) hk, turn_enum a (s1.heap.objs.size + 1) s1.heap.objs.size, ⟨⟨.none, he⟩, hit, Nat.succ_ne_self _⟩, fun b hb => I1.fpOk (fp b hb) (I1.hok.fresh (fp b hb)), q⟩
    · obtain ⟨its, rv, p', hz⟩ := I1.tuple hq
      have la : a < s1.heap.objs.size := by obtain ⟨o, e, _⟩ := p'; exact Heap.lt_size e
      refine call_enum1 (begins_tuple a its.toArray) p' fun h' he hit hsz hk => wpAny_pyIter_enum he ?_
      exact ⟨s1.heap.objs.size + 1, [s1.heap.objs.size + 1, s1.heap.objs.size], _, _, H1, rfl, I1.kept (t' := s1.toks) hk, turn_enumT a (s1.heap.objs.size + 1) s1.heap.objs.size, ⟨⟨.none, he⟩, ⟨_, hit, rfl, rfl⟩, Nat.succ_ne_self _, Nat.ne_of_lt la, Nat.ne_of_lt (Nat.lt_succ_of_lt la)⟩, fun b hb => I1.fpOk (fp b hb) (I1.hok.fresh (fp b hb)), q⟩
def numd (ds : List PyData) : List PyData := List.zipWith (fun x y => .tuple [x, y]) ((List.range ds.length).map fun (k : Nat) => .int (k : Int)) ds
def itE (f : DE) : DF := fun s => (f s).bind fun p => match p.1 with
  | .list ds => some (numd ds, p.2)
  | .tuple ds => some (numd ds, p.2)
  | _ => none
theorem pienum {X : Cx} {Z : Par} {a : Expr} {elts : List Expr} {kk : Nat} {pos p tpos : Pos} {fa : DE} (hg : Gl X "enumerate") (hm : X.mg "enumerate" = none) (ha : PE X a (lft X.K Z fa)) (hs : starEach [a] X.env = [(false, eval a X.env)] := by rfl) :
    PI X (.Tuple elts kk tpos) (.Call (.Name "enumerate" p) [a] [] pos) (lfIG X.K Z (itE fa)) := PIimp (pi_enumA hg hm (pa_cons ha pa_nil hs) hs) fun σ H R h => by
  obtain ⟨M, s, ds, s', rl, hf, k⟩ := h
  unfold itE at hf
  simp only [Option.bind_eq_some_iff] at hf
  obtain ⟨⟨d1, s1⟩, h1, h2⟩ := hf
  dsimp only at h2
  split at h2
  · cases h2
    refine ⟨M, s, _, _, rl, h1, fun v H1 k1 r1 t1 => ?_⟩
    obtain ⟨q, xs, rfl, g1, _⟩ := t1.list
    exact ⟨q, xs, rfl, .inl ⟨g1, k _ H1 k1 r1 (yields_enumL t1)⟩⟩
  · cases h2
    refine ⟨M, s, _, _, rl, h1, fun v H1 k1 r1 t1 => ?_⟩
    obtain ⟨q, xs, rfl, g1, _⟩ := t1.tuple
    exact ⟨q, xs, rfl, .inr ⟨g1, k _ H1 k1 r1 (yields_enumT t1)⟩⟩
  · cases h2
end Dl

/-! ### a set of numbers out of a list, put in order -/
namespace L2
open PySem PySem.Spec PyProof.Rows
abbrev freshS (w : World) : Obj := { cls := .type "set", dict := none, data := .set #[] 0 (.fresh 0 0 (!w.params.followText "set-order")) }
section
variable {P : Program} {w : World} {A : Around} {E : Value → Shared → Prop} {s : Shared}
set_option maxHeartbeats 6400000 in
/-- set(l), l a list of numbers: a set whose order is kept -/
theorem setL_ints {l : Addr} {us : Array Value} (zs : List Int) {Q : Value → Shared → Prop} (calm : A.handled = none) (isL : s.heap.IsList l us) (are : IntsAre us.toList zs) (few : zs.length + 1 < scanBound)
    (k : ∀ (g : Heap) (tk c : Nat), SetR w g s.heap.objs.size (fun j => decide (j ∈ zs)) c → (∀ b o, s.heap.get? b = some o → g.get? b = some o) → c ≤ zs.length → Q (.ref s.heap.objs.size) { s with heap := g, toks := tk }) :
    wpAny (model P w) A (call (.type "set") [.ref l]) Q E s := by
  have sz : us.size = zs.length := by have q := IntsAre.length are; simpa using q
  obtain ⟨c, tl, hmro⟩ := F.called_set.mro
  have made := F.called_set.made; have sub := F.called_set.sub
  refine wpAny_call (codeAny_of_tree (show wpAny _ _ (callAny (.type "set") _) _ _ _ from wpAny_pure ⟨Code.quiet_builtin _ (by decide +kernel), codeAny_builtin F.entry_type_call ?_⟩))
  rw [Around.under_plain (weight_type_call_type "set" [.ref l] []) rfl]
  have n1 := F.called_set.notType; have n2 := F.called_set.canCreate; have n3 := F.typeCall_set_1 (.ref l)
  repeat (any_goals (first | assumption | wp_step))
  refine codeAny_mono (code_set_led1 (.ref l) (E := E) (Q₁ := fun u t => u = .ref s.heap.objs.size ∧ t = { s with heap := s.heap.push (freshS w) }) ⟨rfl, rfl⟩) fun r t hr => ?_
  match r, hr with
  | .error e, hr => exact hr
  | .ok .next, hr => exact hr.elim
  | .ok .brk, hr => exact hr.elim
  | .ok .cont, hr => exact hr.elim
  | .ok (.ret u), hr =>
    obtain ⟨rfl, rfl⟩ := hr
    have at0 : (s.heap.push (freshS w)).get? s.heap.objs.size = some (freshS w) := Heap.get?_push_size _ rfl
    have ty0 : Shared.TypeIs { s with heap := s.heap.push (freshS w) } (.ref s.heap.objs.size) "set" := ⟨_, at0, rfl⟩
    have i1 := F.called_set.init.lookup; have i2 := F.called_set.init.bind (.ref s.heap.objs.size)
    repeat (any_goals (first | assumption | wp_step))
    refine codeAny_mono (codeAny_call_builtin (R := wants (fun v t2 => v = .none ∧ ∃ g tk c, t2 = { s with heap := g, toks := tk } ∧ c ≤ zs.length ∧ SetR w g s.heap.objs.size (fun j => decide (j ∈ zs)) c ∧ ∀ b o, s.heap.get? b = some o → g.get? b = some o) E)
      F.called_set.init.plain F.entry_set_init (check_set_init_1 ty0 ?_)) fun r2 t2 hr2 => ?_
    · obtain ⟨⟨oc, od, dt, osl⟩, hol, hcl, nl, hdl⟩ := isL
      simp only at hcl hdl
      subst hcl hdl
      have hol2 : (s.heap.push (freshS w)).get? l = some { cls := .type "list", dict := od, data := .seq us nl, slots := osl } := Heap.get?_push_of_some _ hol
      have q1 := F.sub_list_set; have q2 := F.sub_list_frozenset
      have q3 : (Value.type "list" == Value.type "dict") = false := by decide
      unfold Builtin.«set.__init__» noKeywords Builtin.Frozenset.updateFrom
      generalize hPI : pyIter = PI
      wp_walk
      subst hPI
      have il : (s.heap.push (freshS w)).IsList l us := ⟨_, hol2, rfl, nl, rfl⟩
      have ll : l < s.heap.objs.size := Heap.lt_size hol
      have sz1 : (s.heap.push (freshS w)).objs.size = s.heap.objs.size + 1 := Heap.size_push ..
      refine wpAny_pyIter_list il (wpAny_bind (wpAny_runValue ?_))
      have calm3 : A.in1.in1.in1.handled = none := by simp [calm]
      have vals : ∀ (i : Nat) (v : Value), us[i]? = some v → ∃ z t, zs[i]? = some z ∧ v = .int z t := fun i v hv => by
        have hi : i < zs.length := sz ▸ (Array.getElem?_eq_some_iff.mp hv).1
        obtain ⟨t, e⟩ := IntsAre.int_at are i v (by rw [Array.getElem?_toList]; exact hv)
        exact ⟨zs[i], t, List.getElem?_eq_getElem hi, by rw [e, List.getD_eq_getElem?_getD, List.getElem?_eq_getElem hi]; rfl⟩
      refine set_update_ints ((Walks.list calm3 _ l (by rw [sz1]; exact Nat.ne_of_lt (Nat.lt_succ_of_lt ll)) us).toS) s.heap.objs.size (by rw [sz1]; simp only [List.mem_cons, List.not_mem_nil, or_false, not_or]; exact ⟨Nat.ne_of_lt (Nat.lt_succ_self _), Nat.ne_of_gt ll⟩) zs sz few vals (us.size - 0) 0 _ (by omega) (Nat.zero_le _) ⟨⟨_, Heap.get?_push_size _ rfl, rfl, rfl⟩, il.push _⟩
        ⟨0, Nat.le_refl 0, setR_new_at (Heap.get?_push_of_some _ at0)⟩ fun t3 c3 moved c3le R3 => ?_
      obtain ⟨g3, ge3, dr3, tk3, os3⟩ := t3
      have w1 : ge3 = s.gens := moved.gens
      have w2 : dr3 = s.drawn := moved.drawn
      have w3 : os3 = s.os := moved.os
      subst w1 w2 w3
      refine (show wpAny _ _ _ _ _ _ from wpAny_pure (show wpAny _ _ (ret Value.none) _ _ _ from wpAny_pure ⟨rfl, g3, tk3, c3, rfl, sz ▸ c3le, R3, fun b o e => ?_⟩))
      have lb : b < s.heap.objs.size := Heap.lt_size e
      refine moved.heap b o ?_ (Heap.get?_push_of_some _ (Heap.get?_push_of_some _ e))
      simp only [List.mem_cons, List.not_mem_nil, or_false, sz1, not_or]
      exact ⟨Nat.ne_of_lt lb, Nat.ne_of_lt (Nat.lt_succ_of_lt lb)⟩
    · match r2, hr2 with
      | .error e, hr2 => exact hr2
      | .ok .next, hr2 => exact hr2.elim
      | .ok .brk, hr2 => exact hr2.elim
      | .ok .cont, hr2 => exact hr2.elim
      | .ok (.ret v), hr2 =>
        obtain ⟨rfl, g, tk, c, rfl, cle, R, kp⟩ := hr2
        repeat (any_goals (first | assumption | wp_step))
        exact k g tk c R kp cle
end
def rSetZ (K : PySem.W.Frag) (w : World) : List V → Hp → VK → Prop := fun vs H Q => ∃ (l : Addr) (zs : List Int), vs = [.ref l] ∧ SqL K H l (zs.map V.int) ∧ zs.length < 64 ∧ ∀ (p : Addr) (c : Nat), H p = none → c < 64 → Q (.ref p) (upd H p (SetO w p (fun j => decide (j ∈ zs)) c))
theorem cr_setZ {X : Cx} (calm : X.calm = true) : CallR X (.type "set") (rSetZ X.K X.w) := fun pins s σ H xs us Q I r ⟨l, zs, e, hl, few, q⟩ => by
  subst e
  rw [Vals.ref1 r]
  obtain ⟨its, rv, pl, _⟩ := I.list hl
  refine setL_ints zs (I.ok.hd calm) pl.isList (by simpa using rv.ints) (by unfold scanBound; omega) fun g tk c R kp cle => ?_
  exact ⟨.ref s.heap.objs.size, _, I.laid (t' := tk) kp (Nat.le_refl _) (setO_new R), rfl, q _ c (I.hok.fresh (Nat.le_refl _)) (by omega)⟩
end L2

namespace Dl
open PySem PySem.Spec PyProof.Rows L2
/-! ### whole numbers, each once, rising: sorted(set(..)) -/
def insU (x : Int) : List Int → List Int
  | [] => [x]
  | y :: r => if x < y then x :: y :: r else if x = y then y :: r else y :: insU x r
def upS : List Int → List Int
  | [] => []
  | x :: r => insU x (upS r)
theorem mem_insU {x z : Int} : ∀ {l : List Int}, z ∈ insU x l ↔ z = x ∨ z ∈ l
  | [] => by simp [insU]
  | y :: r => by
    unfold insU
    split
    · simp
    · split
      · rename_i e
        subst e
        simp
      · rw [List.mem_cons, mem_insU (l := r), List.mem_cons]
        constructor <;> (intro h; rcases h with h | h | h <;> simp [h])
theorem insU_up {x : Int} : ∀ {l : List Int}, l.Pairwise (· < ·) → (insU x l).Pairwise (· < ·)
  | [], _ => by simp [insU]
  | y :: r, h => by
    unfold insU
    split
    · rename_i lt
      refine List.pairwise_cons.mpr ⟨fun z hz => ?_, h⟩
      rcases List.mem_cons.mp hz with e | e
      · rw [e]; exact lt
      · exact Int.lt_trans lt (List.rel_of_pairwise_cons h e)
    · split
      · exact h
      · rename_i n1 n2
        refine List.pairwise_cons.mpr ⟨fun z hz => ?_, insU_up (List.Pairwise.of_cons h)⟩
        rcases mem_insU.mp hz with e | e
        · rw [e]; omega
        · exact List.rel_of_pairwise_cons h e
theorem mem_upS {z : Int} : ∀ {l : List Int}, z ∈ upS l ↔ z ∈ l
  | [] => by simp [upS]
  | x :: r => by rw [upS, mem_insU, mem_upS, List.mem_cons]
theorem upS_up : ∀ l : List Int, (upS l).Pairwise (· < ·)
  | [] => List.Pairwise.nil
  | x :: r => insU_up (upS_up r)
theorem up_one : ∀ {l m : List Int}, l.Pairwise (· < ·) → m.Pairwise (· < ·) → (∀ z, z ∈ l ↔ z ∈ m) → l = m
  | [], [], _, _, _ => rfl
  | [], y :: m, _, _, h => by have := (h y).mpr List.mem_cons_self; cases this
  | x :: l, [], _, _, h => by have := (h x).mp List.mem_cons_self; cases this
  | x :: l, y :: m, hl, hm, h => by
    have e : x = y := by
      rcases List.mem_cons.mp ((h x).mp List.mem_cons_self) with a | a
      · exact a
      · rcases List.mem_cons.mp ((h y).mpr List.mem_cons_self) with b | b
        · exact b.symm
        · have := List.rel_of_pairwise_cons hm a
          have := List.rel_of_pairwise_cons hl b
          omega
    subst e
    refine congrArg (x :: ·) (up_one (List.Pairwise.of_cons hl) (List.Pairwise.of_cons hm) fun z => ⟨fun hz => ?_, fun hz => ?_⟩)
    · have lt := List.rel_of_pairwise_cons hl hz
      rcases List.mem_cons.mp ((h z).mp (List.mem_cons_of_mem _ hz)) with a | a
      · omega
      · exact a
    · have lt := List.rel_of_pairwise_cons hm hz
      rcases List.mem_cons.mp ((h z).mpr (List.mem_cons_of_mem _ hz)) with a | a
      · omega
      · exact a
def intsOf : List PyData → Option (List Int)
  | [] => some []
  | .int z :: r => (intsOf r).map (z :: ·)
  | _ => none
theorem intsOf_map : ∀ {ds : List PyData} {ns : List Int}, intsOf ds = some ns → ds = ns.map .int
  | [], _, e => by cases e; rfl
  | d :: ds, ns, e => by
    unfold intsOf at e
    split at e
    · rename_i q; cases q
    · rename_i z r q
      cases q
      simp only [Option.map_eq_some_iff] at e
      obtain ⟨zs, e1, rfl⟩ := e
      rw [intsOf_map e1]
      rfl
    · cases e
theorem intsOf_of : ∀ ns : List Int, intsOf (ns.map .int) = some ns
  | [] => rfl
  | n :: r => by simp [intsOf, intsOf_of r]
def gSortSet : PyData → Option PyData
  | .list ds => (intsOf ds).bind fun ns => if ns.length < 64 then some (.list ((upS ns).map .int)) else none
  | _ => none
section
variable {X : Cx} {Z : Par} {fa : DE}
theorem dsortset {a : Expr} {p p2 q pos : Pos} (hc : X.calm = true) (hg : Gl X "sorted") (hm : X.mg "sorted" = none) (hg2 : Gl X "set") (hm2 : X.mg "set" = none) (ha : PE X a (lft X.K Z fa))
    (na : starEach [a] X.env = (false, eval a X.env) :: starEach [] X.env := by rfl) (nb : starEach [.Call (.Name "set" p2) [a] [] q] X.env = (false, eval (.Call (.Name "set" p2) [a] [] q) X.env) :: starEach [] X.env := by rfl)
    (hpl : (backTo q (starEach [] X.env)).any (·.1) = false := by rfl) (hpl2 : (backTo pos (starEach [] X.env)).any (·.1) = false := by rfl) : PE X (.Call (.Name "sorted" p) [.Call (.Name "set" p2) [a] [] q] [] pos) (lft X.K Z (dUn gSortSet fa)) :=
  PEimp (pe_callB (cr_sortedSet hc) hg hm (by decide +kernel) (pa_cons (pe_callTy (cr_setZ hc) hg2 hm2 (by decide +kernel) (pa_cons ha pa_nil na) (by decide) (by decide) na hpl) pa_nil nb) (by decide) (by decide) nb hpl2) fun σ H Q h => by
    obtain ⟨M, s, d, s', rl, hf, k⟩ := h
    obtain ⟨d1, f1, g1⟩ := dUn_some hf
    unfold gSortSet at g1
    split at g1
    case h_2 => cases g1
    rename_i ds
    simp only [Option.bind_eq_some_iff] at g1
    obtain ⟨ns, e1, e2⟩ := g1
    split at e2
    case isFalse => cases e2
    rename_i few
    cases e2
    refine ⟨M, s, _, s', rl, f1, fun v H1 k1 r1 t1 => ?_⟩
    obtain ⟨l, xs, rfl, hq, u1⟩ := t1.list
    obtain rfl := intsOf_map e1
    obtain rfl := u1.ints
    refine ⟨l, ns, rfl, hq, few, fun p2 c hp2 hc2 => ⟨p2, _, c, rfl, upd_same, hc2, fun ns' p3 up mem len hp3 => ?_⟩⟩
    obtain rfl : ns' = upS ns := up_one up (upS_up ns) fun z => by rw [mem z, mem_upS, decide_eq_true_iff]
    have r2 := r1.grow (grow_new (o := SetO X.w p2 (fun j => decide (j ∈ ns)) c) hp2)
    exact k _ _ (k1.trans ((kq_grow (grow_new hp2)).trans (kq_grow (grow_new hp3)))) (r2.grow (grow_new hp3)) (dt_newL r2.muT hp3 (dtAll_ints _))
end

/-! ### a value as a test: lists, tuples, texts, whole numbers -/
def truD : PyData → Option Bool
  | .none => some false
  | .bool b => some b
  | .int i => some (i != 0)
  | .str x => if x.length ≤ sizeLine then some (decide (x.length ≠ 0)) else none
  | .list ds => some (!ds.isEmpty)
  | .tuple ds => some (!ds.isEmpty)
  | _ => none
def dTru (f : DE) : DT := fun s => (f s).bind fun p => (truD p.1).map fun b => (b, p.2)
theorem isEmpty_dt {K : PySem.W.Frag} {mu : Addr → Prop} {H : Hp} {vs : List V} {ds : List PyData} (t : DtAll K mu H vs ds) : (!vs.isEmpty) = !ds.isEmpty := by
  cases t <;> rfl
section
variable {X : Cx} {Z : Par} {e : Expr} {fa : DE}
theorem dtru (h : PE X e (lft X.K Z fa)) (he : ∀ whole, isTrue e X.env whole = (do let v ← whole; standAt e.pos; holding [v] (truthy v)) := by intro _; rfl) : PT X e (lfT X.K Z (dTru fa)) := PTimp (pt_truth h he) fun σ H Q h => by
  obtain ⟨M, s, b, s', rl, hf, k⟩ := h
  unfold dTru at hf
  simp only [Option.bind_eq_some_iff, Option.map_eq_some_iff] at hf
  obtain ⟨⟨d, s1⟩, h1, b1, h2, h3⟩ := hf
  cases h3
  refine ⟨M, s, d, _, rl, h1, fun v H1 k1 r1 t1 => ⟨b, ?_, k H1 k1 r1⟩⟩
  have h2 : truD d = some b := h2
  cases d with
  | none => cases h2; rw [t1.none_]; rfl
  | bool c => cases h2; rw [t1.bool]; rfl
  | int i => cases h2; rw [t1.inti]; rfl
  | str x =>
    unfold truD at h2
    dsimp only at h2
    split at h2
    · rename_i few
      cases h2
      rw [t1.text]
      refine ⟨few, ?_⟩
      by_cases z : x.length = 0
      · rw [z]; rfl
      · have : ((x.length : Int) != 0) = true := by rw [bne_iff_ne]; omega
        rw [this]; simp [z]
    · cases h2
  | list ds =>
    cases h2
    obtain ⟨a, xs, rfl, q, u⟩ := t1.list
    exact .inl ⟨xs, q, (isEmpty_dt u).symm⟩
  | tuple ds =>
    cases h2
    obtain ⟨a, xs, e, q, u⟩ := t1.tuple
    subst e
    exact .inr (.inl ⟨xs, q, (isEmpty_dt u).symm⟩)
  | dict ds => cases h2
end

/-! ### a text among anything; a tuple of anything == a tuple of texts -/
def txE (z : Str) (u : Value) : Bool := match u with
  | .str y _ => y == z
  | _ => false
theorem txE_of {z : Str} {x : V} {u : Value} (r : RelV x u) : txE z u = isTx z x := by
  cases x <;> first | (cases r; rfl) | (obtain ⟨t, rfl⟩ := r; rfl)
theorem mem_txE {X : Cx} {pins : List (Addr × Obj)} {σ : L2.St} {H : Hp} {s : Shared} (I : Inv X pins σ H s) {A : Around} (hu : A.units < cLine) {z : Str} {t : Tok} : ∀ {xs : List V} {us : List Value}, Vals xs us → (∀ w ∈ xs, Okv X.K H w) →
    ∀ u ∈ us, SeqAt.EqAt A s u (.str z t) (txE z u)
  | _, _, .nil, _ => fun u hu => by cases hu
  | _, _, .cons r rest, ok => fun u hm => by
    rcases List.mem_cons.mp hm with e | hm
    · rw [e, txE_of r]
      exact eq_text1 I hu r (ok _ List.mem_cons_self)
    · exact mem_txE I hu rest (fun w hw => ok w (List.mem_cons_of_mem _ hw)) u hm
theorem any_txE {z : Str} : ∀ {xs : List V} {us : List Value}, Vals xs us → us.any (txE z) = xs.any (isTx z)
  | _, _, .nil => rfl
  | _, _, .cons r t => by rw [List.any_cons, List.any_cons, any_txE t, txE_of r]
def rInR (K : PySem.W.Frag) : R2 := fun x y H Q => ∃ z p xs, x = .str z ∧ y = .ref p ∧ SqT K H p xs ∧ (∀ w ∈ xs, Okv K H w) ∧ Q (.bl (xs.any (isTx z))) H
theorem op_inR {X : Cx} (hu : X.A.units + 1 < cLine) : OpR X (compareOp .In) (rInR X.K) := by
  rintro pins s σ H x y v u Q I rx ry ⟨z, p, xs, rfl, rfl, hq, ok, q⟩
  cases ry
  obtain ⟨t, rfl⟩ := rx
  obtain ⟨its, r, pl, _⟩ := I.tuple hq
  refine SeqAt.in_tupleAt (txE z) pl (fun w hw => mem_txE I hu r ok w (by simpa using hw)) ⟨.bl _, H, I, rfl, ?_⟩
  rw [show its.toArray.any (txE z) = its.any (txE z) by simp, any_txE r]
  exact q
def gInR : PyData → PyData → Option PyData
  | .str z, .tuple ds => if ds.all plainD = true then some (.bool (ds.any fun d => PyData.eqv d (.str z))) else none
  | _, _ => none
section
variable {K : PySem.W.Frag} {mu : Addr → Prop} {H : Hp}
theorem isTx_dt {v : V} {d : PyData} (t : Dt K mu H v d) (z : Str) : isTx z v = PyData.eqv d (.str z) := by
  cases t with
  | str x =>
    show (x == z) = decide (_ = _)
    rw [Bool.eq_iff_iff, beq_iff_eq, decide_eq_true_eq]
  | _ => simp [isTx, PyData.eqv]
theorem okvs_of : ∀ {vs : List V} {ds : List PyData}, DtAll K mu H vs ds → ds.all plainD = true → ∀ w ∈ vs, Okv K H w
  | _, _, .nil, _ => fun w hw => by cases hw
  | _, _, .cons h t, e => fun w hw => by
    rw [List.all_cons, Bool.and_eq_true] at e
    rcases List.mem_cons.mp hw with z | z
    · rw [z]; exact okv_of h e.1
    · exact okvs_of t e.2 w z
theorem any_isTx (z : Str) : ∀ {vs : List V} {ds : List PyData}, DtAll K mu H vs ds → vs.any (isTx z) = ds.any fun d => PyData.eqv d (.str z)
  | _, _, .nil => rfl
  | _, _, .cons h t => by rw [List.any_cons, List.any_cons, any_isTx z t, isTx_dt h]
theorem ok_inR : OpOk K (rInR K) gInR := fun mu H x y d1 d2 d Q hm t1 t2 e k => by
  unfold gInR at e
  split at e
  · split at e
    · rename_i z ds c
      cases e
      obtain ⟨a, xs, e2, hq, u⟩ := t2.tuple
      refine ⟨z, a, xs, t1.text, e2, hq, okvs_of u c, ?_⟩
      rw [any_isTx z u]
      exact k _ H (fun _ _ z => z) (.bl _)
    · cases e
  · cases e
def eqTs : List PyData → List Str → Bool
  | [], [] => true
  | d :: ds, z :: zs => PyData.eqv d (.str z) && eqTs ds zs
  | _, _ => false
theorem eqTs_iff : ∀ {ds : List PyData} {zs : List Str}, eqTs ds zs = true ↔ ds.length = zs.length ∧ ∀ (j : Nat) d z, ds[j]? = some d → zs[j]? = some z → PyData.eqv d (.str z) = true
  | [], [] => by simp [eqTs]
  | [], z :: zs => by simp [eqTs]
  | d :: ds, [] => by simp [eqTs]
  | d :: ds, z :: zs => by
    rw [eqTs, Bool.and_eq_true, eqTs_iff (ds := ds) (zs := zs), List.length_cons, List.length_cons]
    constructor
    · rintro ⟨h1, h2, h3⟩
      refine ⟨by omega, fun j d' z' e1 e2 => ?_⟩
      cases j with
      | zero => simp at e1 e2; subst e1 e2; exact h1
      | succ j => exact h3 j d' z' (by simpa using e1) (by simpa using e2)
    · rintro ⟨h1, h2⟩
      exact ⟨h2 0 d z rfl rfl, by omega, fun j d' z' e1 e2 => h2 (j + 1) d' z' (by simpa using e1) (by simpa using e2)⟩
def gEqTS : PyData → PyData → Option PyData
  | .tuple ds, .tuple es => if ds.all plainD = true then (strsS es).map fun zs => .bool (eqTs ds zs) else none
  | _, _ => none
/-- the answer at a place -/
def eqAt' (xs : List V) (zs : List Str) (j : Nat) : Bool := match xs[j]?, zs[j]? with
  | some x, some z => isTx z x
  | _, _ => true
def rEqTS (K : PySem.W.Frag) : R2 := fun x y H Q => ∃ a b xs zs, x = .ref a ∧ y = .ref b ∧ SqT K H a xs ∧ SqT K H b (zs.map V.str) ∧ (∀ w ∈ xs, Okv K H w) ∧ Q (.bl ((List.range (min xs.length zs.length)).all (eqAt' xs zs) && xs.length == zs.length)) H
theorem op_eqTS {X : Cx} (hu : X.A.units + 1 < cLine) : OpR X (compareOp .Eq) (rEqTS X.K) := by
  rintro pins s σ H x y v u Q I rx ry ⟨a, b, xs, zs, rfl, rfl, h1, h2, ok, q⟩
  cases rx
  cases ry
  obtain ⟨its, r1, p1, _⟩ := I.tuple h1
  obtain ⟨its2, r2, p2, _⟩ := I.tuple h2
  have l1 := r1.length
  have l2 := r2.length
  rw [List.length_map] at l2
  have hl1 : its.toArray.size = xs.length := by simpa using l1.symm
  have hl2 : its2.toArray.size = zs.length := by simpa using l2.symm
  refine SeqAt.rcIn_tuples (e := eqAt' xs zs) p1 p2 (by omega) (fun j g1 g2 => ?_) ⟨.bl ((List.range (min xs.length zs.length)).all (eqAt' xs zs) && xs.length == zs.length), H, I, by rw [hl1, hl2]; rfl, q⟩
  have i1 : j < xs.length := by omega
  have i2 : j < zs.length := by omega
  obtain ⟨w, e1, rw1⟩ := r1.get (List.getElem?_eq_getElem i1)
  obtain ⟨w2, e2, rw2⟩ := r2.get (x := .str zs[j]) (by rw [List.getElem?_map, List.getElem?_eq_getElem i2]; rfl)
  have f1 : its.toArray[j] = w := by
    have : its[j]? = some its.toArray[j] := by simp [List.getElem?_eq_getElem (show j < its.length by simpa using g1)]
    rw [this] at e1
    exact Option.some.inj e1
  have f2 : its2.toArray[j] = w2 := by
    have : its2[j]? = some its2.toArray[j] := by simp [List.getElem?_eq_getElem (show j < its2.length by simpa using g2)]
    rw [this] at e2
    exact Option.some.inj e2
  rw [f1, f2]
  obtain ⟨t, rfl⟩ := rw2
  have q1 := eq_text1 I (A := X.A.in1) (z := zs[j]) (t := t) (show X.A.in1.units < cLine from hu) rw1 (ok _ (List.getElem_mem i1))
  have e : eqAt' xs zs j = isTx zs[j] xs[j] := by unfold eqAt'; rw [List.getElem?_eq_getElem i1, List.getElem?_eq_getElem i2]
  rw [e]
  exact q1.inModel _ _
theorem ok_eqTS : OpOk K (rEqTS K) gEqTS := fun mu H x y d1 d2 d Q hm t1 t2 e k => by
  unfold gEqTS at e
  split at e
  · split at e
    · rename_i ds es c
      simp only [Option.map_eq_some_iff] at e
      obtain ⟨zs, e1, rfl⟩ := e
      obtain ⟨a, xs, ea, hq, u⟩ := t1.tuple
      obtain ⟨b, ys, eb, hq2, u2⟩ := t2.tuple
      obtain rfl := strsS_of e1 u2
      refine ⟨a, b, xs, zs, ea, eb, hq, hq2, okvs_of u c, ?_⟩
      have fin : ((List.range (min xs.length zs.length)).all (eqAt' xs zs) && xs.length == zs.length) = eqTs ds zs := by
        rw [Bool.eq_iff_iff, eqTs_iff, Bool.and_eq_true, beq_iff_eq, ← u.len, List.all_eq_true]
        constructor
        · rintro ⟨h1, h2⟩
          refine ⟨h2, fun j d z g1 g2 => ?_⟩
          obtain ⟨w, w1, w2⟩ := u.get g1
          obtain ⟨jl, _⟩ := List.getElem?_eq_some_iff.mp w1
          have := h1 j (List.mem_range.mpr (by omega))
          unfold eqAt' at this
          rw [w1, g2] at this
          rw [← isTx_dt w2]
          exact this
        · rintro ⟨h1, h2⟩
          refine ⟨fun j hj => ?_, h1⟩
          have hj' := List.mem_range.mp hj
          have i1 : j < xs.length := by omega
          have i2 : j < zs.length := by omega
          obtain ⟨d, w1, w2⟩ := u.getv (List.getElem?_eq_getElem i1)
          unfold eqAt'
          rw [List.getElem?_eq_getElem i1, List.getElem?_eq_getElem i2]
          show isTx _ _ = true
          rw [isTx_dt w2]
          exact h2 j _ _ w1 (List.getElem?_eq_getElem i2)
      rw [fin]
      exact k _ H (fun _ _ z => z) (.bl _)
    · cases e
  · cases e
end
end Dl

/-! ### what is never come to; tuples of numbers, which is less; a tuple among tuples -/
namespace Dl
open PySem PySem.Spec PyProof.Rows L2
/-- an expression, a statement, that no run comes to -/
def dNo : DE := fun _ => none
def sNo : DS := fun _ => none
section
variable {X : Cx} {Z : Par} {e : Expr} {st : Stmt}
theorem dno : PE X e (lft X.K Z dNo) := ⟨fun pins s σ H Q I h => by
  obtain ⟨_, _, _, _, _, hf, _⟩ := h
  cases hf⟩
theorem sno : PS X st (lfS X.K Z sNo) := ⟨fun pins s σ H D I h => by
  obtain ⟨_, _, _, _, hf, _⟩ := h
  cases hf⟩
end
/-! a < b, tuples of numbers of one length -/
def intsD2 : List PyData → Option (List Int)
  | [] => some []
  | .int i :: r => (intsD2 r).map (i :: ·)
  | _ => none
theorem intsD2_map : ∀ {ds : List PyData} {ns : List Int}, intsD2 ds = some ns → ds = ns.map .int
  | [], _, h => by cases h; rfl
  | .int i :: r, ns, h => by
    unfold intsD2 at h
    simp only [Option.map_eq_some_iff] at h
    obtain ⟨ms, e, rfl⟩ := h
    rw [List.map_cons, ← intsD2_map e]
def gLtT (d e : PyData) : Option PyData := match d, e with
  | .tuple a, .tuple b => (intsD2 a).bind fun ns => (intsD2 b).map fun ms => .bool (Ob.lexAt (fun j => decide (ns.getD j 0 = ms.getD j 0)) (fun j => decide (ns.getD j 0 < ms.getD j 0)) (decide (ns.length < ms.length)) 0 (min ns.length ms.length))
  | _, _ => none
def rLtT (K : PySem.W.Frag) : R2 := fun x y H Q => ∃ (a b : Addr) (ns ms : List Int), x = .ref a ∧ y = .ref b ∧ SqT K H a (ns.map V.int) ∧ SqT K H b (ms.map V.int) ∧
  Q (.bl (Ob.lexAt (fun j => decide (ns.getD j 0 = ms.getD j 0)) (fun j => decide (ns.getD j 0 < ms.getD j 0)) (decide (ns.length < ms.length)) 0 (min ns.length ms.length))) H
theorem op_ltT {X : Cx} (hu : X.A.units < cLine) : OpR X (compareOp .Lt) (rLtT X.K) := by
  rintro pins s σ H x y v u Q I rx ry ⟨a, b, ns, ms, rfl, rfl, ha, hb, q⟩
  cases rx
  cases ry
  obtain ⟨ia, r1, p1, _⟩ := I.tuple ha
  obtain ⟨ib, r2, p2, _⟩ := I.tuple hb
  have i1 : IntsAre ia ns := Vals.ints r1
  have i2 : IntsAre ib ms := Vals.ints r2
  have z1 : ia.toArray.size = ns.length := by rw [List.size_toArray]; exact i1.length
  have z2 : ib.toArray.size = ms.length := by rw [List.size_toArray]; exact i2.length
  have g1 : ∀ j (h1 : j < ia.toArray.size), ∃ t, ia.toArray[j] = .int (ns.getD j 0) t := fun j h1 => PyProof.Rows.IntsAre.int_at i1 _ _ (by simp at h1; simp [h1])
  have g2 : ∀ j (h1 : j < ib.toArray.size), ∃ t, ib.toArray[j] = .int (ms.getD j 0) t := fun j h1 => PyProof.Rows.IntsAre.int_at i2 _ _ (by simp at h1; simp [h1])
  have R := Ob.RcOp.tuples_lt (A := X.A) (s := s) (e := fun j => decide (ns.getD j 0 = ms.getD j 0)) (r := fun j => decide (ns.getD j 0 < ms.getD j 0)) p1 p2 hu (fun j h1 h2 => by
    obtain ⟨t, et⟩ := g1 j h1
    obtain ⟨t', et'⟩ := g2 j h2
    rw [et, et', show decide (ns.getD j 0 = ms.getD j 0) = (ns.getD j 0 == ms.getD j 0) from rfl]
    exact SeqAt.EqAt.int_int _ _ _ _) (fun j h1 h2 _ => by
    obtain ⟨t, et⟩ := g1 j h1
    obtain ⟨t', et'⟩ := g2 j h2
    rw [et, et']
    exact Ob.RcOp.lt_int _ _ _ _)
  rw [z1, z2] at R
  exact (show wpAny (model X.prog X.w) X.A (compareOp .Lt (.ref a) (.ref b)) (EP X pins σ Q) X.xe s from R X.prog X.w X.xe (EP X pins σ Q) ⟨.bl _, H, I, rfl, q⟩)
theorem dt_ints {K : PySem.W.Frag} {mu : Addr → Prop} {H : Hp} : ∀ {xs : List V} {ns : List Int}, DtAll K mu H xs (ns.map .int) → xs = ns.map V.int
  | _, [], .nil => rfl
  | _, i :: r, .cons h t => by rw [List.map_cons, ← dt_ints t, (show Dt K mu H _ (.int i) from h).inti]
theorem ok_ltT {K : PySem.W.Frag} : OpOk K (rLtT K) gLtT := fun mu H x y d1 d2 d Q hm t1 t2 e k => by
  unfold gLtT at e
  split at e
  · simp only [Option.bind_eq_some_iff, Option.map_eq_some_iff] at e
    obtain ⟨ns, e1, ms, e2, rfl⟩ := e
    rw [intsD2_map e1] at t1
    rw [intsD2_map e2] at t2
    obtain ⟨a, xs, rfl, h1, u1⟩ := t1.tuple
    obtain ⟨b, ys, rfl, h2, u2⟩ := t2.tuple
    rw [dt_ints u1] at h1
    rw [dt_ints u2] at h2
    exact ⟨a, b, ns, ms, rfl, rfl, h1, h2, k _ H (fun _ _ z => z) (.bl _)⟩
  · cases e
/-! a thing among the items of a tuple, neither with a dict -/
def gInT (neg : Bool) (d e : PyData) : Option PyData := match e with
  | .tuple ds => if (noDct d = true ∧ noDct (.tuple ds) = true) ∧ SeqAt.shaped d = true ∧ SeqAt.shaped (.tuple ds) = true then some (.bool (if neg then !ds.any (fun z => PyData.eqv z d) else ds.any fun z => PyData.eqv z d)) else none
  | _ => none
def rInT (K : PySem.W.Frag) (neg : Bool) : R2 := fun x y H Q => ∃ d ds, Dp K H x d ∧ Dp K H y (.tuple ds) ∧ SeqAt.shaped d = true ∧ SeqAt.shaped (.tuple ds) = true ∧ Q (.bl (if neg then !ds.any (fun z => PyData.eqv z d) else ds.any fun z => PyData.eqv z d)) H
theorem op_inT {X : Cx} (hu : X.A.units + 65 < cLine) : OpR X (compareOp .In) (rInT X.K false) := by
  rintro pins s σ H x y v u Q I rx ry ⟨d, ds, hd, he, sd, se, q⟩
  obtain ⟨as, r1⟩ := Dp.reads I d x v hd rx
  obtain ⟨bs, r2⟩ := Dp.reads I (.tuple ds) y u he ry
  exact SeqAt.in_tuple_reads r2 r1 (SeqAt.canLay_of_shaped se) (SeqAt.canLay_of_shaped sd) (room_in_shaped sd hu) ⟨.bl _, H, I, rfl, q⟩
theorem op_notInT {X : Cx} (hu : X.A.units + 65 < cLine) : OpR X (compareOp .NotIn) (rInT X.K true) := by
  rintro pins s σ H x y v u Q I rx ry ⟨d, ds, hd, he, sd, se, q⟩
  obtain ⟨as, r1⟩ := Dp.reads I d x v hd rx
  obtain ⟨bs, r2⟩ := Dp.reads I (.tuple ds) y u he ry
  exact SeqAt.notIn_tuple_reads r2 r1 (SeqAt.canLay_of_shaped se) (SeqAt.canLay_of_shaped sd) (room_in_shaped sd hu) ⟨.bl _, H, I, rfl, q⟩
theorem ok_inT {K : PySem.W.Frag} {neg : Bool} : OpOk K (rInT K neg) (gInT neg) := fun mu H x y d1 d2 d Q hm t1 t2 e k => by
  unfold gInT at e
  split at e
  · split at e
    case isFalse => cases e
    rename_i h
    cases e
    exact ⟨d1, _, t1.dp h.1.1, t2.dp h.1.2, h.2.1, h.2.2, k _ H (fun _ _ z => z) (.bl _)⟩
  · cases e
theorem hu65 {A : Around} {k : Nat} (hr : Room k A) : A.units + 65 < cLine := by have := hr.un; omega
end Dl

/-! ### a dict of one's own, written out by tuples -/
namespace Dl
open PySem PySem.Spec PyProof.Rows L2
def sDispD (i : Nat) (fs : List (DE × DE)) : DS := fun s => (runP fs s).bind fun q => (tupPs q.1).bind fun ps => if (ps.length ≤ 15 ∧ (ps.map (·.1)).Nodup) ∧ i < q.2.length then some (.nx (q.2.set i (.dic (.kT ps)))) else none
section
variable {X : Cx} {Z : Par} {pos : Pos} {keys : List (Option Expr)} {values : List Expr} {fs : List (DE × DE)}
theorem sdispD {i : Nat} {x : Str} {pos' p2 : Pos} (hN : X.N.Nodup) (hi : X.N[i]? = some x) (hx : Loc X.env.scope x) (hu : X.A.units + 1 < cLine) (h : PPs X p2 keys values (fs.map fun p => (lfE X.K p.1, lfE X.K p.2))) (hs : swapsWith (.Dict keys values p2) (some (.Name x pos')) pos.line X.env = pure false := by rfl)
    (hall : keys.all (·.isSome) = true := by rfl) (hl : keys.length = values.length := by rfl) (h0 : keys ≠ [] := by exact fun z => by cases z) (h15 : keys.length ≤ 15 := by decide)
    (hf : X.fn x = true ∨ X.env.scope.names.lookup x = some .local := by first | exact .inl rfl | exact .inr rfl | assumption) : PS X (.Assign [.Name x pos'] (.Dict keys values p2) pos) (lfS X.K Z (sDispD i fs)) := PSimp (ps_set hN hi hx (pe_dispT hu h hall hl h0 h15) hs hf) fun D σ H q => by
  obtain ⟨M, s, fl, rl, hf, k⟩ := q
  unfold sDispD at hf
  simp only [Option.bind_eq_some_iff] at hf
  obtain ⟨⟨prs, s1⟩, e1, ps, e2, e3⟩ := hf
  dsimp only at e2 e3
  split at e3
  case isFalse => cases e3
  rename_i few
  cases e3
  intro p hp
  have npp : Z.p ≠ some p := fun z => by
    obtain ⟨o, e⟩ := rl.pt p z
    rw [hp] at e; cases e
  have nM : p ∉ M := fun z => by
    obtain ⟨_, _, _, o, e⟩ := rl.fr p z
    rw [hp] at e; cases e
  have nm : ¬ Z.m0 p := fun z => by
    obtain ⟨o, e⟩ := rl.mz p z
    rw [hp] at e; cases e
  have n0 : Z.H0 p = none := by
    cases q : Z.H0 p with
    | none => rfl
    | some o =>
      have := rl.base p o q npp
      rw [hp] at this; cases this
  refine lift_pairs fs (rl.addNew hp (.dT [])) e1 fun vs H2 k2 r2 tp => ?_
  obtain ⟨xs, rfl, hx, l, dk⟩ := tp.tup e2
  have h2 : H2 p = some (.dT []) := (k2 p _ upd_same npp nM).1
  have ll : xs.length = ps.length := by have := congrArg List.length l; simpa using this
  refine ⟨h2, xs, rfl, hx, by rw [l]; exact few.1.2, by rw [ll]; exact few.1.1, ?_⟩
  have r3 := r2.wrAdd npp (.dT (xs.map fun x => (x.1, x.2.2))) n0
  have kk : Kq Z M H M (upd H2 p (.dT (xs.map fun x => (x.1, x.2.2)))) := fun a o e n1 n2 => ⟨by
    have na := ne_of_none e hp
    rw [upd_ne na]
    exact (k2 a o (grow_new hp a o e) n1 n2).1, n2⟩
  have ct : CtOk X.K (Mu (Z.add p) M) (upd H2 p (.dT (xs.map fun x => (x.1, x.2.2)))) p (.kT ps) := ⟨_, upd_same, dk.mono fun a o e n => ⟨by
    have na : a ≠ p := fun z => n (mu_add.mpr (.inr z))
    rw [upd_ne na]
    exact e, n⟩⟩
  obtain ⟨M', r4, k4⟩ := r3.dic n0 npp nm ct i few.2
  exact k M' _ _ (fun c u e n1 n2 => ⟨(kk c u e n1 n2).1, fun z => (k4 c z).elim n2 (ne_of_none e hp)⟩) r4
end
section
variable {s : Sl} {i : Nat} {N : Sl → Prop} {R : PyData → Sl → Prop}
theorem s_dispD {fs : List (DE × DE)} {prs : List (PyData × PyData)} {s1 : Sl} {ps : List (List Key × PyData)} (h : runP fs s = some (prs, s1)) (e : tupPs prs = some ps) (l : ps.length ≤ 15) (nd : (ps.map (·.1)).Nodup) (hi : i < s1.length) (k : N (s1.set i (.dic (.kT ps)))) : Gs (sDispD i fs s) N R :=
  ⟨.inl ⟨_, by unfold sDispD; rw [h, Option.bind_some, e, Option.bind_some, if_pos ⟨⟨l, nd⟩, hi⟩], k⟩⟩
end
end Dl

/-! ### {k: v for ..}, the keys tuples -/
namespace Dl
open PySem PySem.Spec PyProof.Rows L2
theorem put_dictT {X : Cx} {pins : List (Addr × Obj)} {σ : L2.St} {H : Hp} {t : Shared} {E : Value → Shared → Prop} {D b : Addr} {kvs : List (List Key × V)} {k : List Key} {v : V} {r : Value} {Q : Unit → Shared → Prop} (hu : X.A.units < cLine) (I : Inv X pins σ H t) (hD : H D = some (.dT kvs)) (few : kvs.length < sizeLine)
    (hb : H b = some (.tup (k.map kV))) (rv : RelV v r) (h : ∀ t', Inv X pins σ (upd H D (.dT (putK kvs k v))) t' → Q () t') : wpAny (model X.prog X.w) X.A (dictSet D (.ref b) r) Q E t := by
  obtain ⟨z, hd, xs, rel, dd⟩ := dt_of I.hok hD
  have zx : xs.length ≤ sizeLine := by rw [← Paired.length rel]; exact z
  have zk : (putK kvs k v).length ≤ sizeLine := by have := length_putK kvs k v; omega
  refine wpAny_dictSet_heap (knd := tupleKind (mixKind X.prog X.w)) (hsz := zx) hu (key_of I.hok hb) dd fun h' dd' sb => h _ ?_
  obtain ⟨o, es, ep, q1, q2, q3, q4, _, q5⟩ := dd'
  refine d_write I (by rw [hD]; exact True.intro) sb ⟨o, q1⟩ ⟨zk, hd, _, (rel.put k hb rv).keeps fun c ys ec => ?_, o, es, ep, q1, q2, q3, q4, q5⟩
  rw [upd_ne (ne_of ec hD (fun z => nomatch z))]
  exact ec
/-- D the new dict; a key is a tuple that stands -/
def tDcT (wi : TI) (g : TG) (tt : TT) (tk tv : TE) (vs : List Nat) : TE := fun σ H Q => wi σ H fun J H1 => ∀ D, H1 D = none → ∃ W : Nat → Nat → Hp → Prop, (∃ m, W 0 m (upd H1 D (.dT []))) ∧ ∀ i m H, W i m H →
  (J.stop i H ∧ Q (.ref D) H) ∨ (J.go i H ∧ ∃ Nx : Hp → Prop, (∀ H', Nx H' → ∃ m', m' < m ∧ W (i + 1) m' H') ∧ ∀ x H', J.yld i H x H' → g x (wipe σ vs) H' fun σ2 H2 => wipe σ2 vs = wipe σ vs ∧ tt σ2 H2 fun b H3 =>
    if b = true then tk σ2 H3 fun y H4 => tv σ2 H4 fun z H5 => ∃ kvs k c, y = .ref c ∧ H5 c = some (.tup (k.map kV)) ∧ H5 D = some (.dT kvs) ∧ kvs.length < sizeLine ∧ Nx (upd H5 D (.dT (putK kvs k z))) else Nx H3)
theorem pe_dcT {X : Cx} {kx vx tg iter : Expr} {ifs : List Expr} {scope : Scope} {own : List (Str × Nat)} {pos : Pos} {wi : TI} {g : TG} {tt : TT} {tk tv : TE} (hu : X.A.units < cLine) (calm : X.calm = true) (nd : X.N.Nodup) (walk : PI X tg iter wi) (ok : BlkOk X.N X.env.scope scope own)
    (gok : ∀ (t : Shared) (G : Hp) (C : Addr) (cl : List (Str × Addr)) (fp : List Addr), PG (X.blk t G scope (compEnvC scope cl C X.env) fp) tg g) (tok : ∀ (t : Shared) (G : Hp) (C : Addr) (cl : List (Str × Addr)) (fp : List Addr), PTs (X.blk t G scope (compEnvC scope cl C X.env) fp) ifs tt)
    (kok : ∀ (t : Shared) (G : Hp) (C : Addr) (cl : List (Str × Addr)) (fp : List Addr), PE (X.blk t G scope (compEnvC scope cl C X.env) fp) kx tk)
    (vok : ∀ (t : Shared) (G : Hp) (C : Addr) (cl : List (Str × Addr)) (fp : List Addr), PE (X.blk t G scope (compEnvC scope cl C X.env) fp) vx tv) (fold : ∀ x, foldedSetIterable iter X.env x = pure x) :
    PE X (.DictComp kx vx [⟨tg, iter, ifs, 0⟩] scope pos) (tDcT wi g tt tk tv (own.map (·.2))) := by
  refine ⟨fun pins t0 σ G Q I0 h => ?_⟩
  rw [arm_eval_DictComp]
  have cap : ∀ y ∈ scope.names, y.2 = .free → ∃ c, X.env.cells.lookup y.1 = some c := fun y hy e => (ok.free y hy e).elim (fun k => I0.ok.has _ (.inl k)) fun k => I0.ok.has _ (.inr k)
  refine wpAny_comprehension_free (use := none) rfl fold (closure_ok cap) ok.kind (fun y hy e => by rw [ok.uniq y hy, e]) (thn (walk.run pins t0 σ G _ I0 h) fun xv t1 hx => thn hx fun itv t2 h2 => ?_)
  obtain ⟨it, fp, tn, J, G2, rfl, J2, T, a2, p2, q⟩ := h2
  refine wpAny_newObj_type (newEnv_comp ?_)
  generalize eD : t2.heap.objs.size = D
  obtain ⟨W, ⟨m0, w0⟩, turn⟩ := q D (J2.hok.fresh (Nat.le_of_eq eD))
  generalize e3 : ({ t2 with heap := t2.heap.push { cls := .type "dict", data := .dict #[] } } : Shared) = t3
  have J3 : Inv X pins σ (upd G2 D (.dT [])) t3 := by
    rw [← e3]
    exact J2.laid (t' := t2.toks) (fun b o e => Heap.get?_push_of_some _ e) (Nat.le_of_eq eD) (by rw [← eD]; exact dt_empty t2.heap J2.big)
  have h3 : t3.heap = t2.heap.push { cls := .type "dict", data := .dict #[] } := by rw [← e3]
  have p3 : ∀ b ∈ fp, FpOk X pins (upd G2 D (.dT [])) b ∧ b < t3.heap.objs.size := fun b hb => by
    obtain ⟨o, e, _⟩ := T.obj _ _ a2 b hb
    have lt := Heap.lt_size e
    refine ⟨⟨?_, (p2 b hb).2⟩, by rw [h3, Heap.size_push]; exact Nat.lt_succ_of_lt lt⟩
    rw [upd_ne (by rw [← eD]; exact Nat.ne_of_lt lt)]
    exact (p2 b hb).1
  have a3 : tn 0 t3.heap := T.keep _ _ _ a2 fun b _ o e => by rw [h3]; exact Heap.get?_push_of_some _ e
  have J4 := block_start J3 ok nd p3
  generalize eC : t3.heap.objs.size = C at J4 ⊢
  generalize eG : upd G2 D (.dT []) = G3 at J3 J4 w0 p3
  generalize ecl : cellsFrom (C + 1) scope.names (cloFrom X.env.cells scope.names []) = cl at J4 ⊢
  have bg := gok t3 G3 C cl fp
  have bt := tok t3 G3 C cl fp
  have bk := kok t3 G3 C cl fp
  have bv := vok t3 G3 C cl fp
  show codeAny _ _ (.compStart (.DictComp kx vx [⟨tg, iter, ifs, 0⟩] scope pos) 0 (.ref it) (.ref D) (compEnvC scope cl C X.env)) (compPost (model X.prog X.w) X.A X.xe none (EP X pins σ Q) (.ref D) C) { t3 with heap := pushCells (t3.heap.push { cls := .type "dict", data := .dict #[] }) scope.names }
  generalize e4 : ({ t3 with heap := pushCells (t3.heap.push { cls := .type "dict", data := .dict #[] }) scope.names } : Shared) = t4 at J4 ⊢
  have a4 : tn 0 t4.heap := T.keep _ _ _ a3 fun b _ o e => by rw [← e4]; exact pushCells_keeps _ _ _ _ (Heap.get?_push_of_some _ e)
  let B := X.blk t3 G3 scope (compEnvC scope cl C X.env) fp
  have own_ : ∀ {σ' : L2.St} {G' : Hp} {t' : Shared}, Inv B [] σ' G' t' → (∀ b ∈ fp, G' b = none) → ∀ b ∈ fp, FpOk B [] G' b := fun {σ' G' t'} I' hn b hb =>
    ⟨hn b hb, (I'.ok.exf b hb).1, I'.ok.exfs b hb, .inl hb, fun x c e => (I'.ok.exf b hb).2 x c e, fun p hp => absurd (show p ∈ ([] : List (Addr × Obj)) ++ [] from hp) (by simp)⟩
  have run : codeAny (model X.prog X.w) X.A (.compLoop (.DictComp kx vx [⟨tg, iter, ifs, 0⟩] scope pos) 0 (.ref it) (.ref D) (compEnvC scope cl C X.env)) (compPost (model X.prog X.w) X.A X.xe none (EP X pins σ Q) (.ref D) C) t4 := by
    refine compLoop_anyD (fun n t' => ∃ i G', Inv B [] (wipe σ (own.map (·.2))) G' t' ∧ tn i t'.heap ∧ (∀ b ∈ fp, G' b = none) ∧ W i n G') ?_ m0 ⟨0, G3, J4, a4, fun b hb => (p3 b hb).1.1, w0⟩
    rintro n t5 ⟨i, G5, J5, a5, n5, w5⟩
    rcases turn i n G5 w5 with ⟨stop, qq⟩ | ⟨go, Nx, hNx, step⟩
    · refine thnF (T.done B rfl rfl rfl calm i [] t5 _ G5 (fun _ _ => False) J5 (own_ J5 n5) a5 stop) fun r t6 ⟨hr, J6⟩ => ?_
      subst hr
      have J7 : Inv X pins σ G5 t6 := J3.call' (ch := fp) J6.os J6.base J6.hok J6.bare fun b hb => ⟨(p3 b hb).1.2.2.2.1, (p3 b hb).1.2.1, (p3 b hb).1.2.2.2.2.1, (p3 b hb).1.2.2.2.2.2⟩
      have nC : G5 C = none := J6.free
      obtain ⟨m, ns, _⟩ := J6.loc
      obtain ⟨f0, f1, f2, f3, f4, f5⟩ := J3.fpOk (Nat.le_of_eq eC) nC
      exact ⟨m, ns, fun h'' sb => ⟨.ref D, G5, J7.turned (t' := t6.toks) (fun b o hb e => (sb.2 b hb).trans e) f0 f1 f3 f4 f5, rfl, qq⟩⟩
    · refine thnF (T.item B rfl rfl rfl calm i [] t5 _ G5 (fun _ _ => False) J5 (own_ J5 n5) a5 go) fun r t6 ⟨u, hr, h6⟩ => ?_
      subst hr
      refine thnF h6 fun _ t7 ⟨x, G7, J7, r7, y7, a7, n7⟩ => ?_
      have J7' := J7.pinned (own_ J7 n7) (T.obj _ _ a7)
      refine thnF (bg.run _ t7 _ G7 x u _ J7' r7 (step x G7 y7)) fun _ t8 ⟨σ8, G8, J8, w8, q8⟩ => thnF (bt.run _ t8 σ8 G8 _ J8 q8) fun b t9 ⟨G9, J9, q9⟩ => ?_
      have fin : ∀ {t' : Shared} {G' : Hp}, Inv B ([] ++ pinsAt fp t7.heap) σ8 G' t' → Nx G' → ∃ m, m < n ∧ ∃ i G', Inv B [] (wipe σ (own.map (·.2))) G' t' ∧ tn i t'.heap ∧ (∀ b ∈ fp, G' b = none) ∧ W i m G' := fun {t' G'} I' nx => by
        obtain ⟨m', lm, w'⟩ := hNx G' nx
        have pin : ∀ b ∈ fp, ∀ o, t7.heap.get? b = some o → t'.heap.get? b = some o ∧ G' b = none := fun b hb o e => by
          have z := I'.pin (b, o) (List.mem_append_right _ (List.mem_append_right _ (mem_pinsAt hb e)))
          exact ⟨z.1, z.2.1⟩
        refine ⟨m', lm, i + 1, G', (I'.unpinned (pins := [])).weak (by rw [← w8, wipe_length]) (fun j v e => (wipe_some (by rw [w8]; exact e)).1), T.keep _ _ _ a7 fun b hb o e => (pin b hb o e).1, fun b hb => ?_, w'⟩
        obtain ⟨o, e, _⟩ := T.obj _ _ a7 b hb
        exact (pin b hb o e).2
      cases b with
      | false =>
        simp only [Bool.false_eq_true, if_false] at q9 ⊢
        exact fin J9 q9
      | true =>
        simp only [if_true] at q9 ⊢
        refine thnF (bk.run _ t9 σ8 G9 _ J9 q9) fun z t10 ⟨yk, G10, J10, r10, q10⟩ => thnF (bv.run _ t10 σ8 G10 _ J10 q10) fun z2 t11 ⟨yv, G11, J11, r11, kvs, k, c, ek, hc, hD, few, nx⟩ => ?_
        subst ek
        cases r10
        exact put_dictT (X := B) hu J11 hD few hc r11 fun t12 J12 => fin J12 nx
  exact codeAny_compStart_dict run (T.self X.A 0 _ _ _ a4 run)
end Dl

/-! ### its meaning -/
namespace Dl
open PySem PySem.Spec PyProof.Rows L2
def dcRunT (js : List Nat) (gd : PyData → Sl → Option Sl) (t : DT) (fk fv : DE) : List PyData → List (List Key × PyData) → Sl → Option (List (List Key × PyData) × Sl)
  | [], acc, s => some (acc, fgS s js)
  | d :: r, acc, s => (gd d (fgS s js)).bind fun s0 => (t s0).bind fun p => if noOwnB js p.2 = true then (if p.1 = true then (fk p.2).bind fun a => (fv a.2).bind fun b => if noOwnB js b.2 = true then (keyT a.1).bind fun kk => dcRunT js gd t fk fv r (putL acc kk b.1) b.2 else none else dcRunT js gd t fk fv r acc p.2) else none
def dDcT (fi : DF) (js : List Nat) (gd : PyData → Sl → Option Sl) (t : DT) (fk fv : DE) : DE := fun s => (fi s).bind fun p => if (js.all fun j => isNo p.2[j]?) = true ∧ p.1.length < sizeLine then (dcRunT js gd t fk fv p.1 [] p.2).map fun q => (.dict ((.none, .none) :: kvD q.1), q.2) else none
theorem putL_len {κ : Type} [DecidableEq κ] (ds : List (κ × PyData)) (k : κ) (d : PyData) : (putL ds k d).length ≤ ds.length + 1 := by
  unfold putL
  split
  · rw [List.length_map]; omega
  · rw [List.length_append]; exact Nat.le_refl _
section
variable {X : Cx} {Z : Par} {tg : Expr} {pos : Pos} {fk fv : DE} {ff : DF} {t : DT} {g : TG} {gd : PyData → Sl → Option Sl}
theorem lift_dcT {K : PySem.W.Frag} {js : List Nat} {σ : L2.St} {H : Hp} {Q : VK} {T : TT} {Ek Ev : TE} (hT : ∀ Z σ H Q, lfT K Z t σ H Q → T σ H Q) (hK : ∀ Z σ H Q, lft K Z fk σ H Q → Ek σ H Q) (hV : ∀ Z σ H Q, lft K Z fv σ H Q → Ev σ H Q) (hgd : TgW K js g gd) (h : lft K Z (dDcT ff js gd t fk fv) σ H Q) : tDcT (lfIG K Z ff) g T Ek Ev js σ H Q := by
  obtain ⟨M, s, ds, s', rl, hf, k⟩ := h
  unfold dDcT at hf
  simp only [Option.bind_eq_some_iff] at hf
  obtain ⟨⟨is, s1⟩, h1, h2⟩ := hf
  dsimp only at h2
  split at h2
  case isFalse => cases h2
  rename_i hc
  simp only [Option.map_eq_some_iff] at h2
  obtain ⟨⟨res, s9⟩, h2, h3⟩ := h2
  cases h3
  have hno : ∀ j ∈ js, s1[j]? = some .no := fun j hj => isNo_eq (List.all_eq_true.mp hc.1 j hj)
  refine ⟨M, s, is, s1, rl, h1, fun J H1 k1 r1 y D hD => ?_⟩
  have hD0 : H D = none := by
    cases q : H D with
    | none => rfl
    | some o =>
      by_cases m : Mu Z M D
      · obtain ⟨u, e⟩ := r1.muT D m
        rw [hD] at e; cases e
      · have := (k1.kp D o q m).1
        rw [hD] at this; cases this
  have npp : Z.p ≠ some D := fun z => by
    obtain ⟨o, e⟩ := r1.pt D z
    rw [hD] at e; cases e
  have nDM : D ∉ M := fun z => by
    obtain ⟨_, _, _, o, e⟩ := r1.fr D z
    rw [hD] at e; cases e
  have nMu : ¬ Mu Z M D := fun z => by
    obtain ⟨u, e⟩ := r1.muT D z
    rw [hD] at e; cases e
  have n0 : Z.H0 D = none := by
    cases q : Z.H0 D with
    | none => rfl
    | some o =>
      have := r1.base D o q npp
      rw [hD] at this; cases this
  let Kd : Hp → Prop := fun H' => ∀ a o, H1 a = some o → Z.p ≠ some a → a ∉ M → H' a = some o
  have kdy : ∀ {H'}, Kd H' → Kp (Mu Z M) H1 (Mu (Z.add D) M) H' := fun {H'} q a o e n => ⟨q a o e (fun z => n (.inr (.inl z))) (fun z => n (.inr (.inr z))), fun z => (mu_add.mp z).elim n (ne_of_none e hD)⟩
  let Wv : Nat → Hp → Prop := fun i H' => ∃ sw kvs dacc, Kd H' ∧ Rel K (Z.add D) M (wipe σ js) H' (fgS sw js) ∧
    H' D = some (.dT kvs) ∧ DtKT K (Mu (Z.add D) M) H' kvs dacc ∧ dacc.length ≤ i ∧ dcRunT js gd t fk fv (is.drop i) dacc sw = some (res, s9)
  refine ⟨fun i m H' => m = is.length - i ∧ i ≤ is.length ∧ Wv i H', ⟨is.length, by simp, Nat.zero_le _, s1, [], [], fun a o e _ _ => grow_new hD a o e, ?_, upd_same, .nil, Nat.le_refl _, h2⟩, ?_⟩
  · have q := r1.addNew hD (.dT [])
    exact q.withSl (q.sl.fg js fun j hj => ⟨fun ds e => (by rw [hno j hj] at e; cases e), fun c e => (by rw [hno j hj] at e; cases e)⟩)
  rintro i m H' ⟨rfl, hi, sw, kvs, dacc, k2, r2, e1, e2, e3, e4⟩
  by_cases hlt : i < is.length
  · have ed : is.drop i = is[i] :: is.drop (i + 1) := List.drop_eq_getElem_cons hlt
    rw [ed] at e4
    unfold dcRunT at e4
    simp only [Option.bind_eq_some_iff] at e4
    obtain ⟨s0, e0, ⟨b, s3⟩, e6, e7⟩ := e4
    dsimp only at e7
    split at e7
    case isFalse => cases e7
    rename_i n3
    have yy := y _ _ (kdy k2) r2.muT i
    refine .inr ⟨(yy.1 hlt).1, Wv (i + 1), fun H3 q => ⟨is.length - (i + 1), by omega, rfl, hlt, q⟩, fun x H'' hy => ?_⟩
    obtain ⟨gr, d, e8, e9⟩ := (yy.1 hlt).2 x H'' hy
    rw [List.getElem?_eq_getElem hlt] at e8
    cases e8
    have k2 : Kd H'' := fun a o e n1 n2 => gr a o (k2 a o e n1 n2)
    have e1 : H'' D = some (.dT kvs) := gr _ _ e1
    have e2 := e2.mono (kp_grow (mu := Mu (Z.add D) M) gr)
    refine hgd (Z.add D) M _ H'' _ s0 x _ _ (r2.grow gr) (fun j hj => fgS_mem hj) e9 e0 fun σ3 w3 no3 r3 => ?_
    rw [wipe_idem] at w3
    refine ⟨w3, ?_⟩
    have back : ∀ {H4 : Hp} {s4 : Sl}, Rel K (Z.add D) M σ3 H4 s4 → (∀ j ∈ js, NoOwn s4[j]?) → Rel K (Z.add D) M (wipe σ js) H4 (fgS s4 js) := fun {H4 s4} r4 hs4 => by
      have q := r4.sl.fg js hs4
      rw [w3] at q
      exact r4.withSl q
    refine hT (Z.add D) _ _ _ ⟨M, _, b, s3, r3, e6, fun H4 k4 r4 => ?_⟩
    have eD4 : H4 D = some (.dT kvs) := (k4 D _ e1 npp nDM).1
    have kd4 : Kd H4 := fun a o e n1 n2 => (k4 a o (k2 a o e n1 n2) n1 n2).1
    cases b with
    | true =>
      rw [if_pos rfl] at e7
      simp only [Option.bind_eq_some_iff] at e7
      obtain ⟨⟨da, s4⟩, e10, ⟨db, s5⟩, e11, e12⟩ := e7
      dsimp only at e11 e12
      split at e12
      case isFalse => cases e12
      rename_i n4
      simp only [Option.bind_eq_some_iff] at e12
      obtain ⟨kk, e12, e13⟩ := e12
      refine iteT ?_
      refine hK (Z.add D) _ _ _ ⟨M, s3, da, s4, r4, e10, fun v H5 k5 r5 t5 => hV (Z.add D) _ _ _ ⟨M, s4, db, s5, r5, e11, fun w H6 k6 r6 t6 => ?_⟩⟩
      obtain ⟨c, rfl, hb⟩ := (t5.mono k6.kp).keyT e12
      have eD5 : H5 D = some (.dT kvs) := (k5 D _ eD4 npp nDM).1
      have eD6 : H6 D = some (.dT kvs) := (k6 D _ eD5 npp nDM).1
      have nm : Mu (Z.add D) M D := .inl (.inr rfl)
      have kw : Kp (Mu (Z.add D) M) H6 (Mu (Z.add D) M) (upd H6 D (.dT (putK kvs kk w))) := fun a u e n => ⟨by
        have na : a ≠ D := fun z => n (by rw [z]; exact nm)
        rw [upd_ne na]; exact e, n⟩
      have e6' := e2.mono (k4.kp.trans (k5.kp.trans k6.kp))
      have lk := e6'.len
      refine ⟨kvs, kk, c, rfl, hb, eD6, by omega, s5, putK kvs kk w, putL dacc kk db, fun a o e n1 n2 => ?_, (back r6 (noOwnB_ne n4)).wrAdd npp _ n0, upd_same, (e6'.put kk t6).mono kw, Nat.le_trans (putL_len _ _ _) (Nat.succ_le_succ e3), e13⟩
      have na : a ≠ D := ne_of_none e hD
      rw [upd_ne na]
      exact (k6 a o (k5 a o (kd4 a o e n1 n2) n1 n2).1 n1 n2).1
    | false =>
      rw [if_neg (by simp)] at e7
      refine iteF ?_
      exact ⟨s3, kvs, dacc, kd4, back r4 (noOwnB_ne n3), eD4, e2.mono k4.kp, by omega, e7⟩
  · have e : i = is.length := by omega
    subst e
    rw [List.drop_length] at e4
    cases e4
    refine .inl ⟨(y _ _ (kdy k2) r2.muT _).2 (Nat.le_refl _), ?_⟩
    have r3 : Rel K (Z.add D) M σ H' (fgS sw js) := r2.withSl (r2.sl.unfg js fun j hj l => by
      rw [fgS_len] at l
      rw [fgS_get, if_pos ⟨hj, l⟩])
    exact k (.ref D) H' (fun a o e n1 n2 => ⟨k2 a o (k1 a o e n1 n2).1 n1 n2, n2⟩) r3.unadd (.dcT e1 nMu (e2.mono kp_drop))
theorem ddcT {kx vx iter : Expr} {ifs : List Expr} {scope : Scope} {own : List (Str × Nat)} {js : List Nat} (hu : X.A.units < cLine) (hc : X.calm = true) (hN : X.N.Nodup) (hi : PI X tg iter (lfIG X.K Z ff)) (ok : BlkOk X.N X.env.scope scope own)
    (hg : ∀ (s : Shared) (H : Hp) (C : Addr) (cl : List (Str × Addr)) (fp : List Addr), PG (X.blk s H scope (compEnvC scope cl C X.env) fp) tg g) (hgd : TgW X.K js g gd)
    (ht : ∀ (s : Shared) (H : Hp) (C : Addr) (cl : List (Str × Addr)) (fp : List Addr) (Z : Par), PTs (X.blk s H scope (compEnvC scope cl C X.env) fp) ifs (lfT X.K Z t))
    (hk : ∀ (s : Shared) (H : Hp) (C : Addr) (cl : List (Str × Addr)) (fp : List Addr) (Z : Par), PE (X.blk s H scope (compEnvC scope cl C X.env) fp) kx (lft X.K Z fk))
    (hv : ∀ (s : Shared) (H : Hp) (C : Addr) (cl : List (Str × Addr)) (fp : List Addr) (Z : Par), PE (X.blk s H scope (compEnvC scope cl C X.env) fp) vx (lft X.K Z fv)) (hs : ∀ x, foldedSetIterable iter X.env x = pure x := by intro _; rfl) (hjs : own.map (·.2) = js := by rfl) :
    PE X (.DictComp kx vx [⟨tg, iter, ifs, 0⟩] scope pos) (lft X.K Z (dDcT ff js gd t fk fv)) := by
  subst hjs
  exact PEimp (pe_dcT hu hc hN hi ok hg (tt := fun σ H Q => ∃ Z, lfT X.K Z t σ H Q) (tk := fun σ H Q => ∃ Z, lft X.K Z fk σ H Q) (tv := fun σ H Q => ∃ Z, lft X.K Z fv σ H Q)
    (fun s H0 C cl fp => ⟨fun pins s' σ H Q I ⟨Z, q⟩ => (ht s H0 C cl fp Z).run pins s' σ H Q I q⟩) (fun s H0 C cl fp => ⟨fun pins s' σ H Q I ⟨Z, q⟩ => (hk s H0 C cl fp Z).run pins s' σ H Q I q⟩) (fun s H0 C cl fp => ⟨fun pins s' σ H Q I ⟨Z, q⟩ => (hv s H0 C cl fp Z).run pins s' σ H Q I q⟩) hs) fun σ H Q h => lift_dcT (fun Z _ _ _ q => ⟨Z, q⟩) (fun Z _ _ _ q => ⟨Z, q⟩) (fun Z _ _ _ q => ⟨Z, q⟩) hgd h
end
end Dl

/-! ### a dict of one's own, looked into while it is filled -/
namespace Dl
open PySem PySem.Spec PyProof.Rows L2
def lookO (c : Ct) (k : PyData) : Option (Option PyData) := match c with
  | .kT ds => (keyT k).map fun kk => getL ds kk
  | .kK ds => (kOf k).map fun kk => getF ds kk
def dInO (neg : Bool) (fe : DE) (i : Nat) : DE := fun s => (fe s).bind fun p => (dicAt p.2 i).bind fun c => (lookO c p.1).map fun o => (.bool (if neg then o.isNone else o.isSome), p.2)
theorem lookO_ok {K : PySem.W.Frag} {mu : Addr → Prop} {H : Hp} {a : Addr} {y : V} {k : PyData} {c : Ct} {o : Option PyData} (t : CtOk K mu H a c) (u : Dt K mu H y k) (e : lookO c k = some o) : ∃ ov, DGet H a y ov ∧ SameO K mu H ov o := by
  cases c with
  | kT ds =>
    obtain ⟨kvs, h, t⟩ := t
    have e : (keyT k).map (fun kk => getL ds kk) = some o := e
    simp only [Option.map_eq_some_iff] at e
    obtain ⟨kk, e1, rfl⟩ := e
    obtain ⟨b, rfl, hb⟩ := u.keyT e1
    exact ⟨_, DGet.t h hb, t.get kk⟩
  | kK ds =>
    obtain ⟨kvs, h, t⟩ := t
    have e : (kOf k).map (fun kk => getF ds kk) = some o := e
    simp only [Option.map_eq_some_iff] at e
    obtain ⟨kk, e1, rfl⟩ := e
    obtain rfl := u.keyF e1
    exact ⟨_, DGet.k h, t.get kk⟩
section
variable {X : Cx} {Z : Par} {a b : Expr} {pos : Pos} {fa : DE}
theorem lift_inO {neg : Bool} {i : Nat} {σ : L2.St} {H : Hp} {Q : VK} (h : lft X.K Z (dInO neg fa i) σ H Q) : lft X.K Z fa σ H fun y H1 => tVar i σ H1 fun x H2 => ∃ a ov, x = .ref a ∧ DGet H2 a y ov ∧ Q (.bl (if neg then !ov.isSome else ov.isSome)) H2 := by
  obtain ⟨M, s, d, s', rl, hf, k⟩ := h
  unfold dInO at hf
  simp only [Option.bind_eq_some_iff, Option.map_eq_some_iff] at hf
  obtain ⟨⟨d1, s1⟩, h1, c, h2, o, h3, h4⟩ := hf
  cases h4
  refine ⟨M, s, d1, _, rl, h1, fun y H1 k1 r1 t1 => ?_⟩
  obtain ⟨a0, g1, ct, _⟩ := r1.atD (dicAt_eq h2)
  obtain ⟨ov, g, so⟩ := lookO_ok ct t1 h3
  refine ⟨.ref a0, g1, a0, ov, rfl, g, ?_⟩
  have e := sameO_is so
  cases o with
  | none =>
    have e' : ov.isSome = false := e
    rw [e']
    exact k _ H1 k1 r1 (.bl _)
  | some d =>
    have e' : ov.isSome = true := e
    rw [e']
    exact k _ H1 k1 r1 (.bl _)
theorem dinO (i : Nat) (hu : X.A.units + 1 < cLine) (ha : PE X a (lft X.K Z fa)) (hb : PE X b (tVar i)) (hm : behindInMarks .In b = false := by with_unfolding_all rfl) : PE X (.Compare a [.In] [b] pos) (lft X.K Z (dInO false fa i)) := PEimp (pe_cmp (pc_din hu ha hb) hm) fun σ H Q h => lift_inO h
theorem dnotinO (i : Nat) (hu : X.A.units + 1 < cLine) (ha : PE X a (lft X.K Z fa)) (hb : PE X b (tVar i)) (hm : behindInMarks .NotIn b = false := by with_unfolding_all rfl) : PE X (.Compare a [.NotIn] [b] pos) (lft X.K Z (dInO true fa i)) := PEimp (pe_cmp (pc_dnotin hu ha hb) hm) fun σ H Q h => lift_inO h
theorem lift_inOT {neg : Bool} {i : Nat} {σ : L2.St} {H : Hp} {Q : Bool → Hp → Prop} (h : lfT X.K Z (dTst (dInO neg fa i)) σ H Q) : lft X.K Z (dInO neg fa i) σ H fun v H' => ∃ b, v = .bl b ∧ Q b H' := by
  obtain ⟨M, s, b, s', rl, hf, k⟩ := h
  exact ⟨M, s, .bool b, s', rl, dTst_some hf, fun v H' k1 r1 t1 => ⟨b, t1.bool, k H' k1 r1⟩⟩
theorem dtinO (i : Nat) (hu : X.A.units + 1 < cLine) (ha : PE X a (lft X.K Z fa)) (hb : PE X b (tVar i)) (hm : behindInMarks .In b = false := by with_unfolding_all rfl) : PT X (.Compare a [.In] [b] pos) (lfT X.K Z (dTst (dInO false fa i))) := PTimp (pt_cmp (pc_din hu ha hb) hm) fun σ H Q h => lift_inO (lift_inOT h)
theorem dtnotinO (i : Nat) (hu : X.A.units + 1 < cLine) (ha : PE X a (lft X.K Z fa)) (hb : PE X b (tVar i)) (hm : behindInMarks .NotIn b = false := by with_unfolding_all rfl) : PT X (.Compare a [.NotIn] [b] pos) (lfT X.K Z (dTst (dInO true fa i))) := PTimp (pt_cmp (pc_dnotin hu ha hb) hm) fun σ H Q h => lift_inO (lift_inOT h)
end
/-- {} as a dict by tuples -/
theorem ddctT {X : Cx} {Z : Par} {pos : Pos} : PE X (.Dict [] [] pos) (lft X.K Z (dC (.dict [(.none, .none)]))) := PEimp pe_dnewT fun σ H Q h => by
  obtain ⟨M, s, d, s', rl, hf, k⟩ := h
  cases hf
  intro p hp
  exact k _ _ (kq_grow (grow_new hp)) (rl.grow (grow_new hp)) (.dcT (ds := []) upd_same (nomu_new rl.muT hp) .nil)
end Dl

/-! ### zip of a list or a tuple and a list or a tuple -/
namespace Dl
open PySem PySem.Spec PyProof.Rows L2
def IsB (tb : Bool) (h : Heap) (l : Addr) (items : Array Value) : Prop := if tb = true then h.IsTuple l items else h.IsList l items
def ItB (tb : Bool) (h : Heap) (it l : Addr) (i : Nat) : Prop := if tb = true then h.IsTupleIter it l i else h.IsListIter it l i
def SqB (tb : Bool) (K : PySem.W.Frag) (H : Hp) (a : Addr) (xs : List V) : Prop := if tb = true then SqT K H a xs else SqL K H a xs
def obB (tb : Bool) (l : Addr) : Obj := if tb = true then { cls := .type "tuple_iterator", data := .fields #[.ref l, .int 0 0] } else { cls := .type "list_iterator", data := .fields #[.ref l, .int 0 0] }
section
variable {prog : Program} {w : World} {A : Around}
theorem ItB.live {tb : Bool} {h : Heap} {it l : Addr} {i : Nat} (st : ItB tb h it l i) : ∃ o, h.get? it = some o ∧ ∀ v, o.data ≠ .cell v := by
  cases tb with
  | true => obtain ⟨o, q1, _, q2⟩ := (show h.IsTupleIter it l i from st); exact ⟨o, q1, fun v z => by rw [q2] at z; cases z⟩
  | false => obtain ⟨o, q1, _, q2⟩ := (show h.IsListIter it l i from st); exact ⟨o, q1, fun v z => by rw [q2] at z; cases z⟩
theorem ItB.to {tb : Bool} {h h' : Heap} {it l : Addr} {i : Nat} (st : ItB tb h it l i) (k : ∀ o, h.get? it = some o → h'.get? it = some o) : ItB tb h' it l i := by
  cases tb with
  | true => exact (show h.IsTupleIter it l i from st).at k
  | false => exact (show h.IsListIter it l i from st).at k
theorem IsB.to {tb : Bool} {h h' : Heap} {l : Addr} {ws : Array Value} (st : IsB tb h l ws) (k : ∀ o, h.get? l = some o → h'.get? l = some o) : IsB tb h' l ws := by
  cases tb with
  | true => exact (show h.IsTuple l ws from st).at k
  | false => exact (show h.IsList l ws from st).at k
theorem IsB.lt {tb : Bool} {h : Heap} {l : Addr} {ws : Array Value} (st : IsB tb h l ws) : l < h.objs.size := by
  cases tb with
  | true => obtain ⟨o, q, _⟩ := (show h.IsTuple l ws from st); exact Heap.lt_size q
  | false => obtain ⟨o, q, _⟩ := (show h.IsList l ws from st); exact Heap.lt_size q
def StB (tb : Bool) (it l : Addr) (ws : Array Value) (i : Nat) (h : Heap) : Prop := ItB tb h it l i ∧ IsB tb h l ws
theorem draws_B (hh : A.handled = none) (tb : Bool) {it l : Addr} (hne : l ≠ it) (ws : Array Value) : Draws prog w A it [it, l] ws.size (fun i v => ws[i]? = some v) (StB tb it l ws) := by
  cases tb with
  | true => exact Draws.tuple hh it l hne ws
  | false => exact Draws.list hh it l hne ws
/-- at its end, at whatever place -/
theorem draws_E (hh : A.handled = none) (tb : Bool) {it l : Addr} (ws : Array Value) (n : Nat) (e : ws[n]? = none) : Draws prog w A it [it, l] n (fun _ _ => False) (fun i h => i = n ∧ StB tb it l ws i h) where
  live := fun i h st => by
    obtain ⟨o, q, _⟩ := st.2.1.live
    exact ⟨o, q⟩
  frame := fun i h h' st k => ⟨st.1, st.2.1.to fun o q => k it (by simp) o q, st.2.2.to fun o q => k l (by simp) o q⟩
  item := fun i s Q E hi st _ => absurd hi (by rw [st.1]; exact Nat.lt_irrefl n)
  done := fun s Q E st hE => by
    cases tb with
    | true => exact wpAny_nextOf_tuple_end hh (show s.heap.IsTupleIter it l n from st.2.1) st.2.2 e hE
    | false => exact wpAny_nextOf_list_end hh (show s.heap.IsListIter it l n from st.2.1) st.2.2 e hE
theorem begins_B (tb : Bool) (l : Addr) (ws : Array Value) : Begins (.ref l) (obB tb l) fun h => IsB tb h l ws := by
  cases tb with
  | true => exact begins_tuple l ws
  | false => exact begins_list l ws
theorem it_new {tb : Bool} {h : Heap} {it l : Addr} (e : h.get? it = some (obB tb l)) : ItB tb h it l 0 := by
  cases tb with
  | true => exact ⟨_, e, rfl, rfl⟩
  | false => exact ⟨_, e, rfl, rfl⟩
end
section
variable {X : Cx} {pins : List (Addr × Obj)} {σ : L2.St} {H : Hp} {s : Shared}
theorem SqB.at_ {tb : Bool} {a : Addr} {xs : List V} (I : Inv X pins σ H s) (h : SqB tb X.K H a xs) : ∃ ws : List Value, Vals xs ws ∧ IsB tb s.heap a ws.toArray := by
  cases tb with
  | true => obtain ⟨ws, rv, p, _⟩ := I.tuple (show SqT X.K H a xs from h); exact ⟨ws, rv, p⟩
  | false => obtain ⟨ws, rv, p, _⟩ := I.list (show SqL X.K H a xs from h); exact ⟨ws, rv, p.isList⟩
theorem SqB.inj {tb : Bool} {a : Addr} {xs ys : List V} (I : Inv X pins σ H s) (h : SqB tb X.K H a xs) (k : SqB tb X.K H a ys) : xs = ys := by
  cases tb with
  | true => exact I.tuple_inj h k
  | false => exact I.list_inj h k
end
def ItzB (K : PySem.W.Frag) (t1 t2 : Bool) (a b : Addr) : It :=
  ⟨fun i H => ∃ (xs ys : List V) (x y : V), SqB t1 K H a xs ∧ SqB t2 K H b ys ∧ xs[i]? = some x ∧ ys[i]? = some y,
    fun i H v H' => ∃ T x y, v = .ref T ∧ H T = none ∧ H' = upd H T (.tup [x, y]) ∧ (∀ xs, SqB t1 K H a xs → xs[i]? = some x) ∧ ∀ ys, SqB t2 K H b ys → ys[i]? = some y,
    fun i H => ∃ xs ys : List V, SqB t1 K H a xs ∧ SqB t2 K H b ys ∧ (xs.length ≤ i ∨ ys.length ≤ i)⟩
def TnB (t1 t2 : Bool) (z TI TO i1 i2 a b : Addr) (i : Nat) (h : Heap) : Prop := (IsZip h z TI TO .none ∧ IsPair h TI (.ref i1) (.ref i2) ∧ ∃ x y, IsPair h TO x y) ∧ ItB t1 h i1 a i ∧ ItB t2 h i2 b i
theorem sep_B {z TI TO i1 i2 a b : Addr} (D : ZipApart z TI TO i1 i2 a b) : ZipSep2 z TI TO i1 i2 [i1, a] [i2, b] where
  TIz := D.TIz
  TOz := D.TOz
  TITO := D.TITO
  TIi1 := D.TIi1
  mem1 := by simp
  zf1 := by simp [D.i1z.symm, D.l1z.symm]
  Tf1 := by simp [D.TOi1, D.l1TO.symm]
  TIi2 := D.TIi2
  mem2 := by simp
  zf2 := by simp [D.i2z.symm, D.l2z.symm]
  Tf2 := by simp [D.TOi2, D.l2TO.symm]
  sep1_2 := by simp [D.i12, D.l2i1.symm]
  sep2_1 := by simp [D.i12.symm, D.l1i2.symm]
theorem turn_B {P : Program} {w : World} {K : PySem.W.Frag} {elts : List Expr} {kk : Nat} {tpos : Pos} (t1 t2 : Bool) {a b z TI TO i1 i2 : Addr} (D : ZipApart z TI TO i1 i2 a b) : Turn P w K (.Tuple elts kk tpos) (ItzB K t1 t2 a b) [z, TI, TO, i1, i2] z (TnB t1 t2 z TI TO i1 i2 a b) where
  mem := by simp
  obj := fun i h st c hc => by
    obtain ⟨⟨gz, gI, u, v, gO⟩, g1, g2⟩ := st
    simp only [List.mem_cons, List.not_mem_nil, or_false] at hc
    rcases hc with e | e | e | e | e <;> subst e
    · exact ⟨_, gz, fun v q => nomatch q⟩
    · exact ⟨_, gI, fun v q => nomatch q⟩
    · exact ⟨_, gO, fun v q => nomatch q⟩
    · exact g1.live
    · exact g2.live
  keep := fun i h h' st k => by
    obtain ⟨⟨gz, gI, u, v, gO⟩, g1, g2⟩ := st
    exact ⟨⟨k z (by simp) _ gz, k TI (by simp) _ gI, u, v, k TO (by simp) _ gO⟩, g1.to fun o q => k i1 (by simp) o q, g2.to fun o q => k i2 (by simp) o q⟩
  item := by
    intro X eP ew eK hc i pins s σ H E I hf st hg
    subst eP ew eK
    obtain ⟨⟨gz, gI, u, v, gO⟩, g1, g2⟩ := st
    obtain ⟨xs, ys, x, y, q1, q2, ex, ey⟩ := hg
    obtain ⟨ws1, rv1, p1⟩ := q1.at_ I
    obtain ⟨ws2, rv2, p2⟩ := q2.at_ I
    have hh : X.A.in1.handled = none := I.ok.hd hc
    have n1 : i < ws1.toArray.size := by
      have := (List.getElem?_eq_some_iff.mp ex).1
      rw [List.size_toArray, ← rv1.length]; exact this
    have n2 : i < ws2.toArray.size := by
      have := (List.getElem?_eq_some_iff.mp ey).1
      rw [List.size_toArray, ← rv2.length]; exact this
    have zlt : z < s.heap.objs.size := Heap.lt_size gz
    refine wpAny_pyNext_zipD2_item (sep_B D) (draws_B hh t1 D.l1i1 ws1.toArray) (draws_B hh t2 D.l2i2 ws2.toArray) gz gI gO ⟨g1, p1⟩ ⟨g2, p2⟩ n1 n2 fun v1 v2 h' tk e1 e2 gz' gO' st1 st2 gT sz kp => ?_
    refine ⟨_, rfl, ?_⟩
    refine wpAny_letOwnedTupleGo_zip (s := { s with heap := h', toks := tk }) gz' fun h2 gz2 sb => ?_
    have r1 : RelV x v1 := by
      obtain ⟨v', hv, r⟩ := rv1.get ex
      have : some v' = some v1 := by rw [← hv, ← e1]; simp
      cases this
      exact r
    have r2 : RelV y v2 := by
      obtain ⟨v', hv, r⟩ := rv2.get ey
      have : some v' = some v2 := by rw [← hv, ← e2]; simp
      cases this
      exact r
    have gT2 : h2.get? s.heap.objs.size = some { cls := .type "tuple", data := .seq #[v1, v2] } := (sb.2 _ (Nat.ne_of_gt zlt)).trans gT
    have made : ObjOk X.prog X.w (upd H s.heap.objs.size (.tup [x, y])) h2 s.heap.objs.size (.tup [x, y]) := ⟨by show 2 ≤ sizeLine; decide, [v1, v2], .cons r1 (.cons r2 .nil), ⟨_, gT2, rfl, _, rfl⟩⟩
    have J : Inv X pins σ (upd H s.heap.objs.size (.tup [x, y])) { s with heap := h2, toks := tk } :=
      I.turnedNew (t' := tk) (ch := [z, TI, TO, i1, i2]) (fun c o nc q => (sb.2 c (fun e => nc (by simp [e]))).trans (kp c o (fun e => nc (by simp [e])) (fun e => nc (by simp [e])) (fun e => nc (by simp [e])) (fun e => nc (by simp [e])) q)) hf (Nat.le_refl _) made
    refine ⟨.ref s.heap.objs.size, _, J, rfl, ⟨_, x, y, rfl, I.hok.fresh (Nat.le_refl _), rfl, fun l hl => by rw [SqB.inj I hl q1]; exact ex, fun l hl => by rw [SqB.inj I hl q2]; exact ey⟩, ⟨⟨gz2, ?_, v1, v2, ?_⟩, ?_, ?_⟩, fun c hcm => ?_⟩
    · exact (sb.2 _ D.TIz).trans (kp _ _ D.TIz D.TITO D.TIi1 D.TIi2 gI)
    · exact (sb.2 _ D.TOz).trans gO'
    · exact st1.1.to fun o q => (sb.2 _ D.i1z).trans q
    · exact st2.1.to fun o q => (sb.2 _ D.i2z).trans q
    · have lt : c < s.heap.objs.size := by
        simp only [List.mem_cons, List.not_mem_nil, or_false] at hcm
        rcases hcm with e | e | e | e | e <;> subst e
        · exact zlt
        · exact Heap.lt_size gI
        · exact Heap.lt_size gO
        · obtain ⟨o, e, _⟩ := g1.live; exact Heap.lt_size e
        · obtain ⟨o, e, _⟩ := g2.live; exact Heap.lt_size e
      rw [upd_ne (Nat.ne_of_lt lt)]
      exact (hf c hcm).1
  done := by
    intro X eP ew eK hc i pins s σ H E I hf st hg
    subst eP ew eK
    obtain ⟨⟨gz, gI, u, v, gO⟩, g1, g2⟩ := st
    obtain ⟨xs, ys, q1, q2, hend⟩ := hg
    obtain ⟨ws1, rv1, p1⟩ := q1.at_ I
    obtain ⟨ws2, rv2, p2⟩ := q2.at_ I
    have hh : X.A.in1.handled = none := I.ok.hd hc
    have fin : ∀ h' tk, (∀ c o, c ≠ z → c ≠ TO → c ≠ i1 → c ≠ i2 → s.heap.get? c = some o → h'.get? c = some o) → (none : Option Value) = none ∧ Inv X pins σ H { s with heap := h', toks := tk } := fun h' tk kp =>
      ⟨rfl, I.turnedL (t' := tk) (ch := [z, TI, TO, i1, i2]) (fun c o nc q => kp c o (fun e => nc (by simp [e])) (fun e => nc (by simp [e])) (fun e => nc (by simp [e])) (fun e => nc (by simp [e])) q) hf⟩
    by_cases c1 : ws1.toArray[i]? = none
    · by_cases c2 : ws2.toArray[i]? = none
      · exact wpAny_pyNext_zipD2_end (sep_B D) (draws_E hh t1 ws1.toArray i c1) (draws_E hh t2 ws2.toArray i c2) gz gI gO ⟨rfl, g1, p1⟩ ⟨rfl, g2, p2⟩ (Nat.le_refl _) (Nat.le_refl _) (.inl rfl) fin
      · have l2 : i ≤ ws2.toArray.size := by
          rw [Array.getElem?_eq_none_iff] at c2; omega
        exact wpAny_pyNext_zipD2_end (sep_B D) (draws_E hh t1 ws1.toArray i c1) (draws_B hh t2 D.l2i2 ws2.toArray) gz gI gO ⟨rfl, g1, p1⟩ ⟨g2, p2⟩ (Nat.le_refl _) l2 (.inl rfl) fin
    · have l1 : i ≤ ws1.toArray.size := by
        rw [Array.getElem?_eq_none_iff] at c1; omega
      have c2 : ws2.toArray[i]? = none := by
        rw [Array.getElem?_eq_none_iff] at c1 ⊢
        rw [List.size_toArray, ← rv1.length] at c1
        rw [List.size_toArray, ← rv2.length]
        omega
      exact wpAny_pyNext_zipD2_end (sep_B D) (draws_B hh t1 D.l1i1 ws1.toArray) (draws_E hh t2 ws2.toArray i c2) gz gI gO ⟨g1, p1⟩ ⟨rfl, g2, p2⟩ l1 (Nat.le_refl _) (.inr rfl) fin
  self := fun A i s Q E st h => wpAny_pyIter_zip st.1.1 h
def iZipB (K : PySem.W.Frag) (ta : TA) : TI := fun σ H R => ta σ H fun vs H1 => ∃ t1 t2 a b xs ys, vs = [.ref a, .ref b] ∧ SqB t1 K H1 a xs ∧ SqB t2 K H1 b ys ∧ R (ItzB K t1 t2 a b) H1
theorem pi_zipB {X : Cx} {e e2 : Expr} {ta : TA} {p pos tpos : Pos} {elts : List Expr} {kk : Nat} (hg : Gl X "zip") (hm : X.mg "zip" = none) (ha : PA X [e, e2] ta)
    (hs : starEach [e, e2] X.env = (false, eval e X.env) :: starEach [e2] X.env := by rfl) (hpl : (backTo pos (starEach [e2] X.env)).any (·.1) = false := by rfl) :
    PI X (.Tuple elts kk tpos) (.Call (.Name "zip" p) [e, e2] [] pos) (iZipB X.K ta) := by
  refine ⟨fun pins s σ H R I h => Call_ (ld_blt I hg hm boot_zip ?_)⟩
  refine callWith_type1 (thn (ha.run pos pins s σ H _ I h) fun us s1 ⟨vs, H1, I1, r1, q⟩ => ?_) hs hpl
  obtain ⟨t1, t2, a, b, xs, ys, rfl, h1, h2, q⟩ := q
  cases r1 with
  | cons r rr =>
    cases rr with
    | cons r' rr =>
      cases rr
      cases r
      cases r'
      obtain ⟨ws1, rv1, p1⟩ := h1.at_ I1
      obtain ⟨ws2, rv2, p2⟩ := h2.at_ I1
      refine zip_begins2 (begins_B t1 a ws1.toArray) (begins_B t2 b ws2.toArray) p1 p2 fun h' gz gI gO g1 g2 sz kp => ?_
      refine wpAny_pyIter_zip gz ?_
      have I2 : Inv X pins σ H1 { s1 with heap := h' } := I1.kept (t' := s1.toks) kp
      refine ⟨s1.heap.objs.size + 4, [s1.heap.objs.size + 4, s1.heap.objs.size + 2, s1.heap.objs.size + 3, s1.heap.objs.size, s1.heap.objs.size + 1], _, _, H1, rfl, I2, turn_B t1 t2 (PySem.W.ktu_apart s1.heap.objs.size a b p1.lt p2.lt), ⟨⟨gz, gI, _, _, gO⟩, it_new g1, it_new g2⟩, fun c hcm => ?_, q⟩
      have hle : s1.heap.objs.size ≤ c := by
        simp only [List.mem_cons, List.not_mem_nil, or_false] at hcm
        rcases hcm with e | e | e | e | e <;> subst e <;> first | exact Nat.le_add_right _ _ | exact Nat.le_refl _
      exact I1.fpOk hle (I1.hok.fresh hle)
/-- what is zipped: lists and tuples -/
def sqD : PyData → Option (Bool × List PyData)
  | .list a => some (false, a)
  | .tuple a => some (true, a)
  | _ => none
theorem sqD_at {K : PySem.W.Frag} {mu : Addr → Prop} {H : Hp} {v : V} {d : PyData} {tb : Bool} {a : List PyData} (e : sqD d = some (tb, a)) (t : Dt K mu H v d) : ∃ (p : Addr) (xs : List V), v = .ref p ∧ SqB tb K H p xs ∧ DtAll K mu H xs a := by
  unfold sqD at e
  split at e
  · cases e
    obtain ⟨p, xs, rfl, h, k⟩ := t.list
    exact ⟨p, xs, rfl, h, k⟩
  · cases e
    obtain ⟨p, xs, rfl, h, k⟩ := t.tuple
    exact ⟨p, xs, rfl, h, k⟩
  · cases e
def itZB (f g : DE) : DF := fun s => (f s).bind fun p => (g p.2).bind fun q => (sqD p.1).bind fun a => (sqD q.1).map fun b => (List.zipWith (fun x y => .tuple [x, y]) a.2 b.2, q.2)
theorem yields_B {K : PySem.W.Frag} {mu : Addr → Prop} {H : Hp} {p q : Addr} {t1 t2 : Bool} {d1 d2 : PyData} {a b : List PyData} (e1 : sqD d1 = some (t1, a)) (e2 : sqD d2 = some (t2, b)) (t : Dt K mu H (.ref p) d1) (u : Dt K mu H (.ref q) d2) : YieldsG K mu H (ItzB K t1 t2 p q) (List.zipWith (fun x y => .tuple [x, y]) a b) := fun mu' H' k hm i => by
  obtain ⟨p', xs, w1, h1, h2⟩ := sqD_at e1 (t.mono k)
  obtain ⟨q', ys, w2, h3, h4⟩ := sqD_at e2 (u.mono k)
  cases w1
  cases w2
  rw [List.length_zipWith]
  refine ⟨fun hi => ?_, fun hi => ⟨xs, ys, h1, h3, by rw [h2.len, h4.len]; omega⟩⟩
  obtain ⟨x, c1, _⟩ := h2.get (List.getElem?_eq_getElem (show i < a.length by omega))
  obtain ⟨y, c2, _⟩ := h4.get (List.getElem?_eq_getElem (show i < b.length by omega))
  refine ⟨⟨xs, ys, x, y, h1, h3, c1, c2⟩, fun v H'' hy => ?_⟩
  obtain ⟨T, x, y, z1, z2, z3, z4, z5⟩ := hy
  exact yields_pair h2 h4 hm (by rw [List.length_zipWith]; exact hi) ⟨T, x, y, z1, z2, z3, z4 xs h1, z5 ys h3⟩
section
variable {X : Cx} {Z : Par} {a b : Expr} {elts : List Expr} {kk : Nat} {pos p tpos : Pos} {fa fb : DE}
theorem pizipB (hg : Gl X "zip") (hm : X.mg "zip" = none) (ha : PE X a (lft X.K Z fa)) (hb : PE X b (lft X.K Z fb)) (hs : starEach [a, b] X.env = (false, eval a X.env) :: starEach [b] X.env := by rfl) (hs2 : starEach [b] X.env = [(false, eval b X.env)] := by rfl) (hpl : (backTo pos (starEach [b] X.env)).any (·.1) = false := by rfl) :
    PI X (.Tuple elts kk tpos) (.Call (.Name "zip" p) [a, b] [] pos) (lfIG X.K Z (itZB fa fb)) := PIimp (pi_zipB hg hm (pa_cons ha (pa_cons hb pa_nil hs2) hs) hs hpl) fun σ H R h => by
  obtain ⟨M, s, ds, s', rl, hf, k⟩ := h
  unfold itZB at hf
  simp only [Option.bind_eq_some_iff, Option.map_eq_some_iff] at hf
  obtain ⟨⟨d1, s1⟩, h1, ⟨d2, s2⟩, h2, ⟨t1, a1⟩, h3, ⟨t2, a2⟩, h4, h5⟩ := hf
  cases h5
  refine ⟨M, s, _, s1, rl, h1, fun v H1 k1 r1 u1 => ⟨M, s1, _, s2, r1, h2, fun w H2 k2 r2 u2 => ?_⟩⟩
  have u1 := u1.mono k2.kp
  obtain ⟨q1, xs, rfl, g1, _⟩ := sqD_at h3 u1
  obtain ⟨q2, ys, rfl, g2, _⟩ := sqD_at h4 u2
  exact ⟨t1, t2, q1, q2, xs, ys, rfl, g1, g2, k _ H2 (k1.trans k2) r2 (yields_B h3 h4 u1 u2)⟩
end
end Dl

namespace K70
open PySem PySem.Spec PyProof.Rows L2 Dl
def topS (i : Nat) : Stmt := PySem.Challenge.pw_askround_k70_given_away.main.body.getD i (.Pass ⟨0, 0, 0, 0⟩)
abbrev d_GREATEST : PyData := (.int 1)
abbrev d_LEAST : PyData := (.int (-1))
abbrev d_MOST_LINES : PyData := (.int 6)
abbrev d_TOP_COUNT : PyData := (.int 1000000000)
def nm_ : List Str := ["NoCounts", "NoPlaces", "NoPlace"]
def ts_ : List Str := []
def q_ : Str := ("law" : Str) ++ ".<locals>." ++ "<lambda>"
structure Tx (K : PySem.W.Frag) (mg : Str → Option Value) : Prop where
  b_abs : mg "abs" = none
  b_all : mg "all" = none
  b_bool : mg "bool" = none
  b_enumerate : mg "enumerate" = none
  b_int : mg "int" = none
  b_isinstance : mg "isinstance" = none
  b_len : mg "len" = none
  b_max : mg "max" = none
  b_min : mg "min" = none
  b_range : mg "range" = none
  b_repr : mg "repr" = none
  b_sum : mg "sum" = none
  b_tuple : mg "tuple" = none
  b_zip : mg "zip" = none
  c_GREATEST : GC K mg "GREATEST" d_GREATEST
  c_LEAST : GC K mg "LEAST" d_LEAST
  c_MOST_LINES : GC K mg "MOST_LINES" d_MOST_LINES
  c_TOP_COUNT : GC K mg "TOP_COUNT" d_TOP_COUNT
section
variable {P : Program} {w : World} {K : PySem.W.Frag} {mg : Str → Option Value} {base : Heap}
/-! #### _law_pot -/
abbrev s__law_pot : Stmt := topS 28
theorem sc__law_pot : FnScope ["_law_script", "_law_k", "_law_cell"] ["_law_script", "_law_k"] (defScope s__law_pot) := ⟨rfl, rfl, rfl, by decide +kernel, rfl, by decide +kernel, by decide +kernel⟩
def b__law_pot : DF := (rSeq (sSet 2 (dC (.int 0)))
  (rSeq (sIf (dTst (dOp gLt (dVar 1) (dB gLen (aCons (dVar 0) aNil))))
  (sSet 2 (dOp gMod (dB gAbs (aCons (dOp gIx (dVar 0) (dVar 1)) aNil)) (dOp gPow (dOp gPow (dC (.int 10)) (dC (.int 60))) (dC (.int 10)))))
  sNil)
  (fLst (aCons (dOp gMulA (dVar 2) (dB gInt1 (aCons (dOp gGe (dVar 2) (dOp gPow (dC (.int 10)) (dC (.int 18)))) aNil))) (aCons (dOp gMod (dOp gPow (dOp gAdd (dOp gAdd (dOp gMod (dVar 2) (dC (.int 2147483629))) (dOp gMulA (dC (.int 7919)) (dVar 1))) (dC (.int 1))) (dC (.int 5))) (dC (.int 2305843009213693951))) (aCons (dC (.int 0)) aNil))))))
def m__law_pot : List PyData → Option (List PyData) := fnF ["_law_script", "_law_k", "_law_cell"] 2 b__law_pot
theorem ok__law_pot (F : Std K mg "_law_pot" s__law_pot ["_law_script", "_law_k"]) (T : Tx K mg)  : Cal P w K mg base 1 "_law_pot" ["_law_script", "_law_k"] (spF K m__law_pot) := by
  refine calF F sc__law_pot (fun f cdv A outer s H E Z hr => ?_)
  unfold b__law_pot
  exact (rcons (sset (i := 2) sc__law_pot.nd rfl (by first | exact .inl rfl | exact .inr rfl) di)
  (rcons (sif (dtcmp op_ltA ok_lt (dv 1) (dcb call_len ok_len (by rfl) T.b_len boot_len (dac (dv 0) danil)) (nomark _))
  (sone (sset (i := 2) sc__law_pot.nd rfl (by first | exact .inl rfl | exact .inr rfl) (do_ op_mod ok_mod (dcb call_abs ok_abs (by rfl) T.b_abs (by decide +kernel) (dac (dix ix_seq ok_ix (dv 0) (dv 1)) danil)) (do_ op_powW ok_pow (do_ op_powW ok_pow di di) di))))
  snil)
  (rone (rret (flst (dac (do_ op_mulA ok_mulA (dv 2) (dcty call_int1 ok_int1 (by rfl) T.b_int (by decide +kernel) (dac (dcmp op_ge ok_ge (dv 2) (do_ op_powW ok_pow di di) (nomark _)) danil))) (dac (do_ op_mod ok_mod (do_ op_powW ok_pow (do_ op_addA ok_add (do_ op_addA ok_add (do_ op_mod ok_mod (dv 2) di) (do_ op_mulA ok_mulA di (dv 1))) di) di) di) (dac di danil))))))))
/-! #### _law_take -/
abbrev s__law_take : Stmt := topS 29
theorem sc__law_take : FnScope ["_law_pot_here", "_law_many", "_law_found", "_law_one", "_law_other"] ["_law_pot_here", "_law_many"] (defScope s__law_take) := ⟨rfl, rfl, rfl, by decide +kernel, rfl, by decide +kernel, by decide +kernel⟩
def b__law_take : DS := (sSeq (sIf (dTst (dOp gGt (dIxC 0 (dC (.int 0))) (dC (.int 0))))
  (sSeq (sSet 2 (dOp gMod (dIxC 0 (dC (.int 0))) (dVar 1)))
  (sSeq (sSetIx 0 (dOp gDiv (dIxC 0 (dC (.int 0))) (dVar 1)) (dC (.int 0)))
  (sRet (dVar 2))))
  sNil)
  (sSeq (sSetIx 0 (dOp gAdd (dIxC 0 (dC (.int 2))) (dC (.int 1))) (dC (.int 2)))
  (sSeq (sSet 3 (dOp gMod (dOp gPow (dOp gAdd (dIxC 0 (dC (.int 1))) (dOp gMulA (dC (.int 104729)) (dIxC 0 (dC (.int 2))))) (dC (.int 3))) (dC (.int 2305843009213693921))))
  (sSeq (sSet 4 (dOp gMod (dOp gPow (dOp gAdd (dOp gAdd (dVar 3) (dOp gMod (dIxC 0 (dC (.int 1))) (dC (.int 65537)))) (dOp gMulA (dC (.int 31)) (dIxC 0 (dC (.int 2))))) (dC (.int 5))) (dC (.int 2305843009213693907))))
  (sRet (dOp gMod (dOp gDiv (dVar 4) (dC (.int 1024))) (dVar 1)))))))
def m__law_take : List PyData → List PyData → Option (PyData × List PyData) := fnM ["_law_pot_here", "_law_many", "_law_found", "_law_one", "_law_other"] 2 b__law_take
theorem ok__law_take (F : Std K mg "_law_take" s__law_take ["_law_pot_here", "_law_many"]) (T : Tx K mg)  : Cal P w K mg base 1 "_law_take" ["_law_pot_here", "_law_many"] (spM K m__law_take) := by
  refine calM F sc__law_take (fun f cdv A outer s H E Z hr => ?_)
  unfold b__law_take
  exact (scons (sif (dtcmp op_gt ok_gt (dixC 0 (pv 0) di) di (nomark _))
  (scons (sset (i := 2) sc__law_take.nd rfl (by first | exact .inl rfl | exact .inr rfl) (do_ op_mod ok_mod (dixC 0 (pv 0) di) (dv 1)))
  (scons (ssetIx 0 (do_ op_fdivW ok_div (dixC 0 (pv 0) di) (dv 1)) (pv 0) di)
  (sone (sret (dv 2)))))
  snil)
  (scons (ssetIx 0 (do_ op_addA ok_add (dixC 0 (pv 0) di) di) (pv 0) di)
  (scons (sset (i := 3) sc__law_take.nd rfl (by first | exact .inl rfl | exact .inr rfl) (do_ op_mod ok_mod (do_ op_powW ok_pow (do_ op_addA ok_add (dixC 0 (pv 0) di) (do_ op_mulA ok_mulA di (dixC 0 (pv 0) di))) di) di))
  (scons (sset (i := 4) sc__law_take.nd rfl (by first | exact .inl rfl | exact .inr rfl) (do_ op_mod ok_mod (do_ op_powW ok_pow (do_ op_addA ok_add (do_ op_addA ok_add (dv 3) (do_ op_mod ok_mod (dixC 0 (pv 0) di) di)) (do_ op_mulA ok_mulA di (dixC 0 (pv 0) di))) di) di))
  (sone (sret (do_ op_mod ok_mod (do_ op_fdivW ok_div (dv 4) di) (dv 1))))))))
/-! #### _law_counts -/
abbrev s__law_counts : Stmt := topS 30
theorem sc__law_counts : FnScope ["_law_pot_here", "_law_many", "_law_wide", "_law_way", "_law_found", "_law_row", "_law_line", "_law_column", "_law_few"] ["_law_pot_here"] (defScope s__law_counts) := ⟨rfl, rfl, rfl, by decide +kernel, rfl, by decide +kernel, by decide +kernel⟩
def b__law_counts : DS := (sSeq (sPar 1 2 (dOp gAdd (dC (.int 1)) (dCallM m__law_take 0 (aCons (dC (.int 6)) aNil))) (dOp gAdd (dC (.int 1)) (dCallM m__law_take 0 (aCons (dC (.int 6)) aNil))))
  (sSeq (sSet 3 (dCallM m__law_take 0 (aCons (dC (.int 5)) aNil)))
  (sSeq (sOwn 4 (fLst aNil))
  (sSeq (sFor (itR1 (dVar 1)) (tgN 5)
  (sSeq (sOwn 6 (fLst aNil))
  (sSeq (sFor (itR1 (dVar 2)) (tgN 7)
  (sSeq (sSet 8 (dOp gMulA (dCallM m__law_take 0 (aCons (dC (.int 8)) aNil)) (dB gInt1 (aCons (dOp gGt (dCallM m__law_take 0 (aCons (dC (.int 3)) aNil)) (dC (.int 0))) aNil))))
  (sApp 6 (dOp gIx (dL (fLst (aCons (dVar 8) (aCons (dC (.int 0)) (aCons (dCallM m__law_take 0 (aCons (dC (.int 3)) aNil)) (aCons (dCallM m__law_take 0 (aCons (dOp gAdd (dOp gPow (dC (.int 10)) (dC (.int 9))) (dC (.int 1))) aNil)) (aCons (dOp gSub (dOp gPow (dC (.int 10)) (dC (.int 9))) (dVar 8)) aNil))))))) (dVar 3)))))
  (sSeq (sFrz 6) (sApp 4 (dB gTuple (aCons (dVar 6) aNil)))))))
  (sSeq (sFrz 4) (sRet (dB gTuple (aCons (dVar 4) aNil))))))))
def m__law_counts : List PyData → List PyData → Option (PyData × List PyData) := fnM ["_law_pot_here", "_law_many", "_law_wide", "_law_way", "_law_found", "_law_row", "_law_line", "_law_column", "_law_few"] 1 b__law_counts
theorem ok__law_counts (F : Std K mg "_law_counts" s__law_counts ["_law_pot_here"]) (T : Tx K mg) (c__law_take : Cal P w K mg base 1 "_law_take" ["_law_pot_here", "_law_many"] (spM K m__law_take)) : Cal P w K mg base 2 "_law_counts" ["_law_pot_here"] (spM K m__law_counts) := by
  refine calM F sc__law_counts (fun f cdv A outer s H E Z hr => ?_)
  unfold b__law_counts
  exact (scons (spar (i := 1) (j := 2) rfl sc__law_counts.nd rfl rfl (by decide) rfl rfl (do_ op_addA ok_add di (dclM 0 c__law_take hr (by decide) (by rfl) (pv 0) (dac di danil))) (do_ op_addA ok_add di (dclM 0 c__law_take hr (by decide) (by rfl) (pv 0) (dac di danil))) (by rfl))
  (scons (sset (i := 3) sc__law_counts.nd rfl (by first | exact .inl rfl | exact .inr rfl) (dclM 0 c__law_take hr (by decide) (by rfl) (pv 0) (dac di danil)))
  (scons (sown (i := 4) sc__law_counts.nd rfl (by first | exact .inl rfl | exact .inr rfl) (flst danil))
  (scons (sfor PassesOwn.never rfl (pir1 (by rfl) T.b_range (dv 1)) (pg_name (i := 5) sc__law_counts.nd rfl (by first | exact .inl rfl | exact .inr rfl)) tgn
  (scons (sown (i := 6) sc__law_counts.nd rfl (by first | exact .inl rfl | exact .inr rfl) (flst danil))
  (scons (sfor PassesOwn.never rfl (pir1 (by rfl) T.b_range (dv 2)) (pg_name (i := 7) sc__law_counts.nd rfl (by first | exact .inl rfl | exact .inr rfl)) tgn
  (scons (sset (i := 8) sc__law_counts.nd rfl (by first | exact .inl rfl | exact .inr rfl) (do_ op_mulA ok_mulA (dclM 0 c__law_take hr (by decide) (by rfl) (pv 0) (dac di danil)) (dcty call_int1 ok_int1 (by rfl) T.b_int (by decide +kernel) (dac (dcmp op_gt ok_gt (dclM 0 c__law_take hr (by decide) (by rfl) (pv 0) (dac di danil)) di (nomark _)) danil))))
  (sone (sapp 6 (pv 6) (dix ix_seq ok_ix (dfr (flst (dac (dv 8) (dac di (dac (dclM 0 c__law_take hr (by decide) (by rfl) (pv 0) (dac di danil)) (dac (dclM 0 c__law_take hr (by decide) (by rfl) (pv 0) (dac (do_ op_addA ok_add (do_ op_powW ok_pow di di) di) danil)) (dac (do_ op_sub ok_sub (do_ op_powW ok_pow di di) (dv 8)) danil))))))) (dv 3))))))
  (sfrz (i := 6) (sone (sapp 4 (pv 4) (dcty call_tuple_of ok_tuple (by rfl) T.b_tuple (by decide +kernel) (dac (dv 6) danil))))))))
  (sfrz (i := 4) (sone (sret (dcty call_tuple_of ok_tuple (by rfl) T.b_tuple (by decide +kernel) (dac (dv 4) danil)))))))))
/-! #### _law_hidden -/
abbrev s__law_hidden : Stmt := topS 31
theorem sc__law_hidden : FnScope ["_law_pot_here", "_law_counts_here", "_law_many", "_law_wide", "_law_way", "_law_found", "_law_row", "_law_column", "_law_some"] ["_law_pot_here", "_law_counts_here"] (defScope s__law_hidden) := ⟨rfl, rfl, rfl, by decide +kernel, rfl, by decide +kernel, by decide +kernel⟩
def b__law_hidden : DS := (sSeq (sPar 2 3 (dB gLen (aCons (dVar 1) aNil)) (dB gLen (aCons (dOp gIx (dVar 1) (dC (.int 0))) aNil)))
  (sSeq (sSet 4 (dCallM m__law_take 0 (aCons (dC (.int 5)) aNil)))
  (sSeq (sOwn 5 (fLst aNil))
  (sSeq (sFor (itR1 (dVar 2)) (tgN 6)
  (sFor (itR1 (dVar 3)) (tgN 7)
  (sSeq (sSet 8 (dL (fLst (aCons (dC (.bool true)) (aCons (dOp gEq (dCallM m__law_take 0 (aCons (dC (.int 2)) aNil)) (dC (.int 0))) (aCons (dOp gEq (dCallM m__law_take 0 (aCons (dC (.int 5)) aNil)) (dC (.int 0))) (aCons (dAnd (dOp gLt (dVar 6) (dC (.int 2))) (dOp gLt (dVar 7) (dC (.int 2)))) aNil)))))))
  (sIf (dTst (dOp gIx (dOp gAdd (dVar 8) (dL (fLst (aCons (dOp (gIn false) (dOp gSub (dVar 6) (dVar 7)) (dTup (aCons (dC (.int 0)) (aCons (dC (.int 1)) aNil)))) aNil)))) (dVar 4)))
  (sApp 5 (dTup (aCons (dVar 6) (aCons (dVar 7) aNil))))
  sNil))))
  (sSeq (sFrz 5) (sRet (dB gTuple (aCons (dVar 5) aNil))))))))
def m__law_hidden : List PyData → List PyData → Option (PyData × List PyData) := fnM ["_law_pot_here", "_law_counts_here", "_law_many", "_law_wide", "_law_way", "_law_found", "_law_row", "_law_column", "_law_some"] 2 b__law_hidden
theorem ok__law_hidden (F : Std K mg "_law_hidden" s__law_hidden ["_law_pot_here", "_law_counts_here"]) (T : Tx K mg) (c__law_take : Cal P w K mg base 1 "_law_take" ["_law_pot_here", "_law_many"] (spM K m__law_take)) : Cal P w K mg base 2 "_law_hidden" ["_law_pot_here", "_law_counts_here"] (spM K m__law_hidden) := by
  refine calM F sc__law_hidden (fun f cdv A outer s H E Z hr => ?_)
  unfold b__law_hidden
  exact (scons (spar (i := 2) (j := 3) rfl sc__law_hidden.nd rfl rfl (by decide) rfl rfl (dcb call_len ok_len (by rfl) T.b_len boot_len (dac (dv 1) danil)) (dcb call_len ok_len (by rfl) T.b_len boot_len (dac (dix ix_seq ok_ix (dv 1) di) danil)) (by rfl))
  (scons (sset (i := 4) sc__law_hidden.nd rfl (by first | exact .inl rfl | exact .inr rfl) (dclM 0 c__law_take hr (by decide) (by rfl) (pv 0) (dac di danil)))
  (scons (sown (i := 5) sc__law_hidden.nd rfl (by first | exact .inl rfl | exact .inr rfl) (flst danil))
  (scons (sfor PassesOwn.never rfl (pir1 (by rfl) T.b_range (dv 2)) (pg_name (i := 6) sc__law_hidden.nd rfl (by first | exact .inl rfl | exact .inr rfl)) tgn
  (sone (sfor PassesOwn.never rfl (pir1 (by rfl) T.b_range (dv 3)) (pg_name (i := 7) sc__law_hidden.nd rfl (by first | exact .inl rfl | exact .inr rfl)) tgn
  (scons (sset (i := 8) sc__law_hidden.nd rfl (by first | exact .inl rfl | exact .inr rfl) (dfr (flst (dac db (dac (dcmp (op_eqA hr.units) ok_eq (dclM 0 c__law_take hr (by decide) (by rfl) (pv 0) (dac di danil)) di (nomark _)) (dac (dcmp (op_eqA hr.units) ok_eq (dclM 0 c__law_take hr (by decide) (by rfl) (pv 0) (dac di danil)) di (nomark _)) (dac (dand (dcmp op_ltA ok_lt (dv 6) di (nomark _)) (pe_one (dcmp op_ltA ok_lt (dv 7) di (nomark _)))) danil)))))))
  (sone (sif (dt (dix ix_seq ok_ix (do_ op_addA ok_add (dv 8) (dfr (flst (dac (dcmp (op_inA (hu_of hr)) ok_in (do_ op_sub ok_sub (dv 6) (dv 7)) (dtup (dac di (dac di danil))) (by first | rfl | with_unfolding_all rfl)) danil)))) (dv 4)))
  (sone (sapp 5 (pv 5) (dtup (dac (dv 6) (dac (dv 7) danil)))))
  snil))))))
  (sfrz (i := 5) (sone (sret (dcty call_tuple_of ok_tuple (by rfl) T.b_tuple (by decide +kernel) (dac (dv 5) danil)))))))))
/-! #### is_whole -/
abbrev s_is_whole : Stmt := topS 6
theorem sc_is_whole : FnScope ["thing"] ["thing"] (defScope s_is_whole) := ⟨rfl, rfl, rfl, by decide +kernel, rfl, by decide +kernel, by decide +kernel⟩
def b_is_whole : DS := (sRet (dAnd (dUn (gIsi "int") (dVar 0)) (dNot (dUn (gIsi "bool") (dVar 0)))))
def m_is_whole : List PyData → Option PyData := fnP ["thing"] 1 b_is_whole
theorem ok_is_whole (F : Std K mg "is_whole" s_is_whole ["thing"]) (T : Tx K mg)  : Cal P w K mg base 1 "is_whole" ["thing"] (spP K m_is_whole) := by
  refine calP F sc_is_whole (fun f cdv A outer s H E Z hr => ?_)
  unfold b_is_whole
  exact (sone (sret (dand (disi isi_int (by rfl) T.b_isinstance (by decide +kernel) (by rfl) T.b_int (by decide +kernel) (dv 0)) (pe_one (dnot (disi isi_bool (by rfl) T.b_isinstance (by decide +kernel) (by rfl) T.b_bool (by decide +kernel) (dv 0)))))))
/-! #### _is_row -/
abbrev s__is_row : Stmt := topS 23
theorem sc__is_row : FnScope ["thing", "count"] ["thing"] (defScope s__is_row) := ⟨rfl, rfl, rfl, by decide +kernel, rfl, by decide +kernel, by decide +kernel⟩
def b__is_row : DS := (sSeq (sIf (dOrT (dNotT (dTst (dUn (gIsi "tuple") (dVar 0)))) (dNotT (dTst (dChain gLe gLe (dC (.int 1)) (dB gLen (aCons (dVar 0) aNil)) (dC d_MOST_LINES)))))
  (sRet (dC (.bool false)))
  sNil)
  (sRet (dB gAll (aCons (dL (fLc (itA (dVar 0)) 1 tYesD (dAnd (dCall m_is_whole (aCons (dVar 1) aNil)) (dChain gLe gLe (dC (.int 0)) (dVar 1) (dC d_TOP_COUNT))))) aNil))))
def m__is_row : List PyData → Option PyData := fnP ["thing", "count"] 1 b__is_row
theorem ok__is_row (F : Std K mg "_is_row" s__is_row ["thing"]) (T : Tx K mg) (c_is_whole : Cal P w K mg base 1 "is_whole" ["thing"] (spP K m_is_whole)) : Cal P w K mg base 2 "_is_row" ["thing"] (spP K m__is_row) := by
  refine calP F sc__is_row (fun f cdv A outer s H E Z hr => ?_)
  unfold b__is_row
  exact (scons (sif (PW.pt (dtor (dtnot (dt (disi isi_tuple (by rfl) T.b_isinstance (by decide +kernel) (by rfl) T.b_tuple (by decide +kernel) (dv 0)))) (pw_or1 (dtnot (dtchain op_leA ok_le op_leA ok_le di (dcb call_len ok_len (by rfl) T.b_len boot_len (dac (dv 0) danil)) (dgc (by rfl) T.c_MOST_LINES))))))
  (sone (sret db))
  snil)
  (sone (sret (dcb (cr_all rfl) ok_all (by rfl) T.b_all (by decide +kernel) (dac (dfr (flc rfl sc__is_row.nd (pia (dv 0)) (blkOk_by (own := [("count", 1)]) (N := ["thing", "count"]) (sc := defScope s__is_row) (by decide +kernel)) (fun _ _ _ _ _ => pg_name (i := 1) sc__is_row.nd rfl (by first | exact .inl rfl | exact .inr rfl)) (fun _ _ _ _ _ _ => tynil) (fun _ _ _ _ _ _ => (dand (dcl c_is_whole hr (by decide) (by rfl) (dac (dv 1) danil)) (pe_one (dchain op_leA ok_le op_leA ok_le di (dv 1) (dgc (by rfl) T.c_TOP_COUNT))))))) danil)))))
/-! #### _check_counts -/
abbrev s__check_counts : Stmt := topS 22
theorem sc__check_counts : FnScope ["thing", "row"] ["thing"] (defScope s__check_counts) := ⟨rfl, rfl, rfl, by decide +kernel, rfl, by decide +kernel, by decide +kernel⟩
def b__check_counts : DSx := (xsSeq (xsIf (dOrT (dNotT (dTst (dUn (gIsi "tuple") (dVar 0)))) (dOrT (dNotT (dTst (dChain gLe gLe (dC (.int 1)) (dB gLen (aCons (dVar 0) aNil)) (dC d_MOST_LINES)))) (dNotT (dTst (dB gAll (aCons (dL (fLc (itA (dVar 0)) 1 tYesD (dCall m__is_row (aCons (dVar 1) aNil)))) aNil))))))
  (xsRaise "NoCounts")
  (xsUp sNil))
  (xsIf (dNotT (dTst (dB gAll (aCons (dL (fLc (itA (dVar 0)) 1 tYesD (dOp gEq (dB gLen (aCons (dVar 1) aNil)) (dB gLen (aCons (dOp gIx (dVar 0) (dC (.int 0))) aNil))))) aNil))))
  (xsRaise "NoCounts")
  (xsUp sNil)))
def m__check_counts : List PyData → Option (Rx PyData) := fnX ["thing", "row"] 1 b__check_counts
theorem ok__check_counts (F : Std K mg "_check_counts" s__check_counts ["thing"]) (T : Tx K mg) (Fx : ExF K mg nm_ ts_) (c__is_row : Cal P w K mg base 2 "_is_row" ["thing"] (spP K m__is_row)) : CalX P w K mg base 3 "_check_counts" ["thing"] (spX K mg m__check_counts) := by
  refine calX F sc__check_counts (fun f cdv A outer s H E Z hr => ?_)
  unfold b__check_counts
  exact (xscons (xsif (PW.pt (dtor (dtnot (dt (disi isi_tuple (by rfl) T.b_isinstance (by decide +kernel) (by rfl) T.b_tuple (by decide +kernel) (dv 0)))) (dtor (dtnot (dtchain op_leA ok_le op_leA ok_le di (dcb call_len ok_len (by rfl) T.b_len boot_len (dac (dv 0) danil)) (dgc (by rfl) T.c_MOST_LINES))) (pw_or1 (dtnot (dt (dcb (cr_all rfl) ok_all (by rfl) T.b_all (by decide +kernel) (dac (dfr (flc rfl sc__check_counts.nd (pia (dv 0)) (blkOk_by (own := [("row", 1)]) (N := ["thing", "row"]) (sc := defScope s__check_counts) (by decide +kernel)) (fun _ _ _ _ _ => pg_name (i := 1) sc__check_counts.nd rfl (by first | exact .inl rfl | exact .inr rfl)) (fun _ _ _ _ _ _ => tynil) (fun _ _ _ _ _ _ => (dcl c__is_row hr (by decide) (by rfl) (dac (dv 1) danil))))) danil))))))))
  (xsone (xsraise (Fx.mak "NoCounts" (by decide)) rfl (L2.takes_of rfl rfl rfl rfl) (by rfl)))
  xsnil)
  (xsone (xsif (dtnot (dt (dcb (cr_all rfl) ok_all (by rfl) T.b_all (by decide +kernel) (dac (dfr (flc rfl sc__check_counts.nd (pia (dv 0)) (blkOk_by (own := [("row", 1)]) (N := ["thing", "row"]) (sc := defScope s__check_counts) (by decide +kernel)) (fun _ _ _ _ _ => pg_name (i := 1) sc__check_counts.nd rfl (by first | exact .inl rfl | exact .inr rfl)) (fun _ _ _ _ _ _ => tynil) (fun _ _ _ _ _ _ => (dcmp (op_eqA hr.units) ok_eq (dcb call_len ok_len (by rfl) T.b_len boot_len (dac (dv 1) danil)) (dcb call_len ok_len (by rfl) T.b_len boot_len (dac (dix ix_seq ok_ix (dv 0) di) danil)) (nomark _))))) danil))))
  (xsone (xsraise (Fx.mak "NoCounts" (by decide)) rfl (L2.takes_of rfl rfl rfl rfl) (by rfl)))
  xsnil)))
/-! #### _is_place -/
abbrev s__is_place : Stmt := topS 25
theorem sc__is_place : FnScope ["counts", "thing", "part"] ["counts", "thing"] (defScope s__is_place) := ⟨rfl, rfl, rfl, by decide +kernel, rfl, by decide +kernel, by decide +kernel⟩
def b__is_place : DS := (sSeq (sIf (dOrT (dNotT (dTst (dUn (gIsi "tuple") (dVar 1)))) (dOrT (dTst (dOp gNe (dB gLen (aCons (dVar 1) aNil)) (dC (.int 2)))) (dNotT (dTst (dB gAll (aCons (dL (fLc (itA (dVar 1)) 2 tYesD (dCall m_is_whole (aCons (dVar 2) aNil)))) aNil))))))
  (sRet (dC (.bool false)))
  sNil)
  (sRet (dAnd (dChain gLe gLt (dC (.int 0)) (dOp gIx (dVar 1) (dC (.int 0))) (dB gLen (aCons (dVar 0) aNil))) (dChain gLe gLt (dC (.int 0)) (dOp gIx (dVar 1) (dC (.int 1))) (dB gLen (aCons (dOp gIx (dVar 0) (dC (.int 0))) aNil))))))
def m__is_place : List PyData → Option PyData := fnP ["counts", "thing", "part"] 2 b__is_place
theorem ok__is_place (F : Std K mg "_is_place" s__is_place ["counts", "thing"]) (T : Tx K mg) (c_is_whole : Cal P w K mg base 1 "is_whole" ["thing"] (spP K m_is_whole)) : Cal P w K mg base 2 "_is_place" ["counts", "thing"] (spP K m__is_place) := by
  refine calP F sc__is_place (fun f cdv A outer s H E Z hr => ?_)
  unfold b__is_place
  exact (scons (sif (PW.pt (dtor (dtnot (dt (disi isi_tuple (by rfl) T.b_isinstance (by decide +kernel) (by rfl) T.b_tuple (by decide +kernel) (dv 1)))) (dtor (dtcmp (op_neA hr.units) ok_ne (dcb call_len ok_len (by rfl) T.b_len boot_len (dac (dv 1) danil)) di (nomark _)) (pw_or1 (dtnot (dt (dcb (cr_all rfl) ok_all (by rfl) T.b_all (by decide +kernel) (dac (dfr (flc rfl sc__is_place.nd (pia (dv 1)) (blkOk_by (own := [("part", 2)]) (N := ["counts", "thing", "part"]) (sc := defScope s__is_place) (by decide +kernel)) (fun _ _ _ _ _ => pg_name (i := 2) sc__is_place.nd rfl (by first | exact .inl rfl | exact .inr rfl)) (fun _ _ _ _ _ _ => tynil) (fun _ _ _ _ _ _ => (dcl c_is_whole hr (by decide) (by rfl) (dac (dv 2) danil))))) danil))))))))
  (sone (sret db))
  snil)
  (sone (sret (dand (dchain op_leA ok_le op_ltA ok_lt di (dix ix_seq ok_ix (dv 1) di) (dcb call_len ok_len (by rfl) T.b_len boot_len (dac (dv 0) danil))) (pe_one (dchain op_leA ok_le op_ltA ok_lt di (dix ix_seq ok_ix (dv 1) di) (dcb call_len ok_len (by rfl) T.b_len boot_len (dac (dix ix_seq ok_ix (dv 0) di) danil))))))))
/-! #### _check_places -/
abbrev s__check_places : Stmt := topS 24
theorem sc__check_places : FnScope ["counts", "thing", "place", "behind"] ["counts", "thing"] (defScope s__check_places) := ⟨rfl, rfl, rfl, by decide +kernel, rfl, by decide +kernel, by decide +kernel⟩
def b__check_places : DSx := (xsSeq (xsIf (dOrT (dNotT (dTst (dUn (gIsi "tuple") (dVar 1)))) (dNotT (dTst (dB gAll (aCons (dL (fLc (itA (dVar 1)) 2 tYesD (dCall m__is_place (aCons (dVar 0) (aCons (dVar 2) aNil))))) aNil)))))
  (xsRaise "NoPlaces")
  (xsUp sNil))
  (xsIf (dNotT (dTst (dB gAll (aCons (dL (fLcT (itZB (dVar 1) (dSl (dVar 1) (oS (dC (.int 1))) oN)) [2, 3] (tgT [(tgN 2), (tgN 3)]) tYesD (dOp gLtT (dVar 2) (dVar 3)))) aNil))))
  (xsRaise "NoPlaces")
  (xsUp sNil)))
def m__check_places : List PyData → Option (Rx PyData) := fnX ["counts", "thing", "place", "behind"] 2 b__check_places
theorem ok__check_places (F : Std K mg "_check_places" s__check_places ["counts", "thing"]) (T : Tx K mg) (Fx : ExF K mg nm_ ts_) (c__is_place : Cal P w K mg base 2 "_is_place" ["counts", "thing"] (spP K m__is_place)) : CalX P w K mg base 3 "_check_places" ["counts", "thing"] (spX K mg m__check_places) := by
  refine calX F sc__check_places (fun f cdv A outer s H E Z hr => ?_)
  unfold b__check_places
  exact (xscons (xsif (PW.pt (dtor (dtnot (dt (disi isi_tuple (by rfl) T.b_isinstance (by decide +kernel) (by rfl) T.b_tuple (by decide +kernel) (dv 1)))) (pw_or1 (dtnot (dt (dcb (cr_all rfl) ok_all (by rfl) T.b_all (by decide +kernel) (dac (dfr (flc rfl sc__check_places.nd (pia (dv 1)) (blkOk_by (own := [("place", 2)]) (N := ["counts", "thing", "place", "behind"]) (sc := defScope s__check_places) (by decide +kernel)) (fun _ _ _ _ _ => pg_name (i := 2) sc__check_places.nd rfl (by first | exact .inl rfl | exact .inr rfl)) (fun _ _ _ _ _ _ => tynil) (fun _ _ _ _ _ _ => (dcl c__is_place hr (by decide) (by rfl) (dac (dv 0) (dac (dv 2) danil)))))) danil)))))))
  (xsone (xsraise (Fx.mak "NoPlaces" (by decide)) rfl (L2.takes_of rfl rfl rfl rfl) (by rfl)))
  xsnil)
  (xsone (xsif (dtnot (dt (dcb (cr_all rfl) ok_all (by rfl) T.b_all (by decide +kernel) (dac (dfr (flcT rfl sc__check_places.nd (pizipB (by rfl) T.b_zip (dv 1) (dsl (dv 1) (dos di) don)) (blkOk_by (own := [("place", 2), ("behind", 3)]) (N := ["counts", "thing", "place", "behind"]) (sc := defScope s__check_places) (by decide +kernel)) (fun _ _ _ _ _ => (pg_tup rfl (pgs_cons (pg_name (i := 2) sc__check_places.nd rfl (by first | exact .inl rfl | exact .inr rfl)) (pgs_cons (pg_name (i := 3) sc__check_places.nd rfl (by first | exact .inl rfl | exact .inr rfl)) pgs_nil)))) (wgt rfl (wgscons (wgn (i := 2)) (wgscons (wgn (i := 3)) wgsnil))) (fun _ _ _ _ _ _ => tynil) (fun _ _ _ _ _ _ => (dcmp (Dl.op_ltT hr.units0) ok_ltT (dv 2) (dv 3) (nomark _))))) danil))))
  (xsone (xsraise (Fx.mak "NoPlaces" (by decide)) rfl (L2.takes_of rfl rfl rfl rfl) (by rfl)))
  xsnil)))
/-! #### _check_place -/
abbrev s__check_place : Stmt := topS 26
theorem sc__check_place : FnScope ["hidden", "thing", "part"] ["hidden", "thing"] (defScope s__check_place) := ⟨rfl, rfl, rfl, by decide +kernel, rfl, by decide +kernel, by decide +kernel⟩
def b__check_place : DSx := (xsIf (dOrT (dNotT (dTst (dUn (gIsi "tuple") (dVar 1)))) (dOrT (dNotT (dTst (dB gAll (aCons (dL (fLc (itA (dVar 1)) 2 tYesD (dCall m_is_whole (aCons (dVar 2) aNil)))) aNil)))) (dTst (dOp (gInT true) (dVar 1) (dVar 0)))))
  (xsRaise "NoPlace")
  (xsUp sNil))
def m__check_place : List PyData → Option (Rx PyData) := fnX ["hidden", "thing", "part"] 2 b__check_place
theorem ok__check_place (F : Std K mg "_check_place" s__check_place ["hidden", "thing"]) (T : Tx K mg) (Fx : ExF K mg nm_ ts_) (c_is_whole : Cal P w K mg base 1 "is_whole" ["thing"] (spP K m_is_whole)) : CalX P w K mg base 2 "_check_place" ["hidden", "thing"] (spX K mg m__check_place) := by
  refine calX F sc__check_place (fun f cdv A outer s H E Z hr => ?_)
  unfold b__check_place
  exact (xsone (xsif (PW.pt (dtor (dtnot (dt (disi isi_tuple (by rfl) T.b_isinstance (by decide +kernel) (by rfl) T.b_tuple (by decide +kernel) (dv 1)))) (dtor (dtnot (dt (dcb (cr_all rfl) ok_all (by rfl) T.b_all (by decide +kernel) (dac (dfr (flc rfl sc__check_place.nd (pia (dv 1)) (blkOk_by (own := [("part", 2)]) (N := ["hidden", "thing", "part"]) (sc := defScope s__check_place) (by decide +kernel)) (fun _ _ _ _ _ => pg_name (i := 2) sc__check_place.nd rfl (by first | exact .inl rfl | exact .inr rfl)) (fun _ _ _ _ _ _ => tynil) (fun _ _ _ _ _ _ => (dcl c_is_whole hr (by decide) (by rfl) (dac (dv 2) danil))))) danil)))) (pw_or1 (dtcmp (op_notInT (hu65 hr)) ok_inT (dv 1) (dv 0) (by first | rfl | with_unfolding_all rfl))))))
  (xsone (xsraise (Fx.mak "NoPlace" (by decide)) rfl (L2.takes_of rfl rfl rfl rfl) (by rfl)))
  xsnil))
/-! #### _lines_behind -/
abbrev s__lines_behind : Stmt := topS 17
theorem sc__lines_behind : FnScope ["table", "others", "line", "side", "at", "row", "column"] ["table", "others", "line"] (defScope s__lines_behind) := ⟨rfl, rfl, rfl, by decide +kernel, rfl, by decide +kernel, by decide +kernel⟩
def b__lines_behind : DS := (sSeq (sAsg (dVar 2) (tgT [(tgN 3), (tgN 4)]))
  (sSeq (sIf (dTst (dOp gEq (dVar 3) (dC (.int 0))))
  (sRet (dL (fLcT (itA (dVar 1)) [5, 6] (tgT [(tgN 5), (tgN 6)]) (dTst (dOp gEq (dVar 5) (dVar 4))) (dTup (aCons (dC (.int 1)) (aCons (dVar 6) aNil))))))
  sNil)
  (sRet (dL (fLcT (itA (dVar 1)) [5, 6] (tgT [(tgN 5), (tgN 6)]) (dAndT (dTst (dOp gEq (dVar 6) (dVar 4))) (dTst (dOp gGt (dOp gIx (dOp gIx (dVar 0) (dVar 5)) (dVar 6)) (dC (.int 0))))) (dTup (aCons (dC (.int 0)) (aCons (dVar 5) aNil))))))))
def m__lines_behind : List PyData → Option PyData := fnP ["table", "others", "line", "side", "at", "row", "column"] 3 b__lines_behind
theorem ok__lines_behind (F : Std K mg "_lines_behind" s__lines_behind ["table", "others", "line"]) (T : Tx K mg)  : Cal P w K mg base 1 "_lines_behind" ["table", "others", "line"] (spP K m__lines_behind) := by
  refine calP F sc__lines_behind (fun f cdv A outer s H E Z hr => ?_)
  unfold b__lines_behind
  exact (scons (sasg (dv 2) (pg_tup rfl (pgs_cons (pg_name (i := 3) sc__lines_behind.nd rfl (by first | exact .inl rfl | exact .inr rfl)) (pgs_cons (pg_name (i := 4) sc__lines_behind.nd rfl (by first | exact .inl rfl | exact .inr rfl)) pgs_nil))) (tgt rfl (tgscons tgn (tgscons tgn tgsnil))))
  (scons (sif (dtcmp (op_eqA hr.units) ok_eq (dv 3) di (nomark _))
  (sone (sret (dfr (flcT rfl sc__lines_behind.nd (piG (pia (dv 1))) (blkOk_by (own := [("row", 5), ("column", 6)]) (N := ["table", "others", "line", "side", "at", "row", "column"]) (sc := defScope s__lines_behind) (by decide +kernel)) (fun _ _ _ _ _ => (pg_tup rfl (pgs_cons (pg_name (i := 5) sc__lines_behind.nd rfl (by first | exact .inl rfl | exact .inr rfl)) (pgs_cons (pg_name (i := 6) sc__lines_behind.nd rfl (by first | exact .inl rfl | exact .inr rfl)) pgs_nil)))) (wgt rfl (wgscons (wgn (i := 5)) (wgscons (wgn (i := 6)) wgsnil))) (fun _ _ _ _ _ _ => (pts_one (dtcmp (op_eqA hr.units) ok_eq (dv 5) (dv 4) (nomark _)))) (fun _ _ _ _ _ _ => (dtup (dac di (dac (dv 6) danil))))))))
  snil)
  (sone (sret (dfr (flcT rfl sc__lines_behind.nd (piG (pia (dv 1))) (blkOk_by (own := [("row", 5), ("column", 6)]) (N := ["table", "others", "line", "side", "at", "row", "column"]) (sc := defScope s__lines_behind) (by decide +kernel)) (fun _ _ _ _ _ => (pg_tup rfl (pgs_cons (pg_name (i := 5) sc__lines_behind.nd rfl (by first | exact .inl rfl | exact .inr rfl)) (pgs_cons (pg_name (i := 6) sc__lines_behind.nd rfl (by first | exact .inl rfl | exact .inr rfl)) pgs_nil)))) (wgt rfl (wgscons (wgn (i := 5)) (wgscons (wgn (i := 6)) wgsnil))) (fun _ _ _ _ _ _ => (pts_one (PW.pt (dtand (dtcmp (op_eqA hr.units) ok_eq (dv 6) (dv 4) (nomark _)) (pw_and1 (dtcmp op_gt ok_gt (dix ix_seq ok_ix (dix ix_seq ok_ix (dv 0) (dv 5)) (dv 6)) di (nomark _))))))) (fun _ _ _ _ _ _ => (dtup (dac di (dac (dv 5) danil))))))))))
/-! #### _reached -/
abbrev s__reached : Stmt := topS 16
theorem sc__reached : FnScope ["table", "others", "begin", "came", "layer", "found", "line", "behind"] ["table", "others", "begin"] (defScope s__reached) := ⟨rfl, rfl, rfl, by decide +kernel, rfl, by decide +kernel, by decide +kernel⟩
def b__reached : DS := (sSeq (sDispD 3 [((dVar 2), (dC .none))])
  (sSeq (sSet 4 (dL (fLst (aCons (dVar 2) aNil))))
  (sSeq (sWhile (dTru (dVar 4))
  (sSeq (sOwn 5 (fLst aNil))
  (sSeq (sFor (itA (dVar 4)) (tgN 6)
  (sFor (itA (dCall m__lines_behind (aCons (dVar 0) (aCons (dVar 1) (aCons (dVar 6) aNil))))) (tgN 7)
  (sIf (dTst (dInO true (dVar 7) 3))
  (sSeq (sPutD 3 (dVar 6) (dVar 7))
  (sApp 5 (dVar 7)))
  sNil)))
  (sSeq (sFrz 5) (sSet 4 (dVar 5))))) bigF)
  (sSeq (sFrzD 3) (sRet (dVar 3))))))
def m__reached : List PyData → Option PyData := fnP ["table", "others", "begin", "came", "layer", "found", "line", "behind"] 3 b__reached
theorem ok__reached (F : Std K mg "_reached" s__reached ["table", "others", "begin"]) (T : Tx K mg) (c__lines_behind : Cal P w K mg base 1 "_lines_behind" ["table", "others", "line"] (spP K m__lines_behind)) : Cal P w K mg base 2 "_reached" ["table", "others", "begin"] (spP K m__reached) := by
  refine calP F sc__reached (fun f cdv A outer s H E Z hr => ?_)
  unfold b__reached
  exact (scons (sdispD (i := 3) (fs := [((dVar 2), (dC .none))]) sc__reached.nd rfl (by first | exact .inl rfl | exact .inr rfl) (hu_of hr) (pps_cons (pe_E fun _ => (dv 2)) (pe_E fun _ => dn) pps_nil))
  (scons (sset (i := 4) sc__reached.nd rfl (by first | exact .inl rfl | exact .inr rfl) (dfr (flst (dac (dv 2) danil))))
  (scons (swhile bigF PassesOwn.never (dtru (dv 4))
  (scons (sown (i := 5) sc__reached.nd rfl (by first | exact .inl rfl | exact .inr rfl) (flst danil))
  (scons (sfor PassesOwn.never rfl (pia (dv 4)) (pg_name (i := 6) sc__reached.nd rfl (by first | exact .inl rfl | exact .inr rfl)) tgn
  (sone (sfor PassesOwn.never rfl (pia (dcl c__lines_behind hr (by decide) (by rfl) (dac (dv 0) (dac (dv 1) (dac (dv 6) danil))))) (pg_name (i := 7) sc__reached.nd rfl (by first | exact .inl rfl | exact .inr rfl)) tgn
  (sone (sif (dtnotinO 3 (hu_of hr) (dv 7) (pv 3))
  (scons (sputD 3 (hu_of hr) (dv 6) (pv 3) (dv 7))
  (sone (sapp 5 (pv 5) (dv 7))))
  snil)))))
  (sfrz (i := 5) (sone (sset (i := 4) sc__reached.nd rfl (by first | exact .inl rfl | exact .inr rfl) (dv 5)))))))
  (sfrzD (i := 3) (sone (sret (dv 3)))))))
/-! #### _places_round -/
abbrev s__places_round : Stmt := topS 18
theorem sc__places_round : FnScope ["place", "turn", "came", "goal", "found", "line", "ahead"] ["place", "turn", "came", "goal"] (defScope s__places_round) := ⟨rfl, rfl, rfl, by decide +kernel, rfl, by decide +kernel, by decide +kernel⟩
def b__places_round : DS := (sSeq (sOwn 4 (fLst (aCons (dTup (aCons (dVar 0) (aCons (dVar 1) aNil))) aNil)))
  (sSeq (sSet 5 (dVar 3))
  (sSeq (sWhile (dTst (dOp gNotN (dOp gGetD (dVar 2) (dVar 5)) (dC .none)))
  (sSeq (sSet 6 (dOp gGetD (dVar 2) (dVar 5)))
  (sSeq (sIf (dTst (dOp gEq (dOp gIx (dVar 6) (dC (.int 0))) (dC (.int 0))))
  (sApp 4 (dTup (aCons (dTup (aCons (dOp gIx (dVar 6) (dC (.int 1))) (aCons (dOp gIx (dVar 5) (dC (.int 1))) aNil))) (aCons (dC (.int 1)) aNil))))
  (sApp 4 (dTup (aCons (dTup (aCons (dOp gIx (dVar 5) (dC (.int 1))) (aCons (dOp gIx (dVar 6) (dC (.int 1))) aNil))) (aCons (dUn gNeg (dC (.int 1))) aNil)))))
  (sSet 5 (dVar 6)))) bigF)
  (sSeq (sFrz 4) (sRet (dVar 4))))))
def m__places_round : List PyData → Option PyData := fnP ["place", "turn", "came", "goal", "found", "line", "ahead"] 4 b__places_round
theorem ok__places_round (F : Std K mg "_places_round" s__places_round ["place", "turn", "came", "goal"]) (T : Tx K mg)  : Cal P w K mg base 1 "_places_round" ["place", "turn", "came", "goal"] (spP K m__places_round) := by
  refine calP F sc__places_round (fun f cdv A outer s H E Z hr => ?_)
  unfold b__places_round
  exact (scons (sown (i := 4) sc__places_round.nd rfl (by first | exact .inl rfl | exact .inr rfl) (flst (dac (dtup (dac (dv 0) (dac (dv 1) danil))) danil)))
  (scons (sset (i := 5) sc__places_round.nd rfl (by first | exact .inl rfl | exact .inr rfl) (dv 3))
  (scons (swhile bigF PassesOwn.never (dtcmp op_notN ok_notN (dgetd (hu_of hr) (dv 2) (dv 5)) dn (nomark _))
  (scons (sset (i := 6) sc__places_round.nd rfl (by first | exact .inl rfl | exact .inr rfl) (dgetd (hu_of hr) (dv 2) (dv 5)))
  (scons (sif (dtcmp (op_eqA hr.units) ok_eq (dix ix_seq ok_ix (dv 6) di) di (nomark _))
  (sone (sapp 4 (pv 4) (dtup (dac (dtup (dac (dix ix_seq ok_ix (dv 6) di) (dac (dix ix_seq ok_ix (dv 5) di) danil))) (dac di danil)))))
  (sone (sapp 4 (pv 4) (dtup (dac (dtup (dac (dix ix_seq ok_ix (dv 5) di) (dac (dix ix_seq ok_ix (dv 6) di) danil))) (dac (du un_neg ok_neg di) danil))))))
  (sone (sset (i := 5) sc__places_round.nd rfl (by first | exact .inl rfl | exact .inr rfl) (dv 6))))))
  (sfrz (i := 4) (sone (sret (dv 4)))))))
/-! #### _most_round -/
abbrev s__most_round : Stmt := topS 19
theorem sc__most_round : FnScope ["table", "place", "turn", "came", "goal", "row", "column", "sign"] ["table", "place", "turn", "came", "goal"] (defScope s__most_round) := ⟨rfl, rfl, rfl, by decide +kernel, rfl, by decide +kernel, by decide +kernel⟩
def b__most_round : DS := (sSeq (sIf (dTst (dOp (gInD true) (dVar 4) (dVar 3)))
  (sRet (dC (.int 0)))
  sNil)
  (sRet (dB gMin (aCons (dL (fLcT (itA (dCall m__places_round (aCons (dVar 1) (aCons (dVar 2) (aCons (dVar 3) (aCons (dVar 4) aNil)))))) [5, 6, 7] (tgT [(tgT [(tgN 5), (tgN 6)]), (tgN 7)]) (dTst (dOp gLt (dVar 7) (dC (.int 0)))) (dOp gIx (dOp gIx (dVar 0) (dVar 5)) (dVar 6)))) aNil))))
def m__most_round : List PyData → Option PyData := fnP ["table", "place", "turn", "came", "goal", "row", "column", "sign"] 5 b__most_round
theorem ok__most_round (F : Std K mg "_most_round" s__most_round ["table", "place", "turn", "came", "goal"]) (T : Tx K mg) (c__places_round : Cal P w K mg base 1 "_places_round" ["place", "turn", "came", "goal"] (spP K m__places_round)) : Cal P w K mg base 2 "_most_round" ["table", "place", "turn", "came", "goal"] (spP K m__most_round) := by
  refine calP F sc__most_round (fun f cdv A outer s H E Z hr => ?_)
  unfold b__most_round
  exact (scons (sif (dtnotind (hu_of hr) (dv 4) (dv 3))
  (sone (sret di))
  snil)
  (sone (sret (dcb (call_minA rfl) ok_minA (by rfl) T.b_min (by decide +kernel) (dac (dfr (flcT rfl sc__most_round.nd (piG (pia (dcl c__places_round hr (by decide) (by rfl) (dac (dv 1) (dac (dv 2) (dac (dv 3) (dac (dv 4) danil))))))) (blkOk_by (own := [("row", 5), ("column", 6), ("sign", 7)]) (N := ["table", "place", "turn", "came", "goal", "row", "column", "sign"]) (sc := defScope s__most_round) (by decide +kernel)) (fun _ _ _ _ _ => (pg_tup rfl (pgs_cons (pg_tup rfl (pgs_cons (pg_name (i := 5) sc__most_round.nd rfl (by first | exact .inl rfl | exact .inr rfl)) (pgs_cons (pg_name (i := 6) sc__most_round.nd rfl (by first | exact .inl rfl | exact .inr rfl)) pgs_nil))) (pgs_cons (pg_name (i := 7) sc__most_round.nd rfl (by first | exact .inl rfl | exact .inr rfl)) pgs_nil)))) (wgt rfl (wgscons (wgt rfl (wgscons (wgn (i := 5)) (wgscons (wgn (i := 6)) wgsnil))) (wgscons (wgn (i := 7)) wgsnil))) (fun _ _ _ _ _ _ => (pts_one (dtcmp op_ltA ok_lt (dv 7) di (nomark _)))) (fun _ _ _ _ _ _ => (dix ix_seq ok_ix (dix ix_seq ok_ix (dv 0) (dv 5)) (dv 6))))) danil)))))
/-! #### _paper -/
abbrev s__paper : Stmt := topS 21
theorem sc__paper : FnScope ["table", "reached", "turn", "rows", "at", "columns"] ["table", "reached", "turn"] (defScope s__paper) := ⟨rfl, rfl, rfl, by decide +kernel, rfl, by decide +kernel, by decide +kernel⟩
def b__paper : DS := (sSeq (sSet 3 (dL (fLc (itR1 (dB gLen (aCons (dVar 0) aNil))) 4 tYesD (dIf (dTst (dOp (gInD false) (dTup (aCons (dC (.int 0)) (aCons (dVar 4) aNil))) (dVar 1))) (dUn gNeg (dVar 2)) (dC (.int 0))))))
  (sSeq (sSet 5 (dL (fLc (itR1 (dB gLen (aCons (dOp gIx (dVar 0) (dC (.int 0))) aNil))) 4 tYesD (dIf (dTst (dOp (gInD false) (dTup (aCons (dC (.int 1)) (aCons (dVar 4) aNil))) (dVar 1))) (dVar 2) (dC (.int 0))))))
  (sRet (dTup (aCons (dB gTuple (aCons (dVar 3) aNil)) (aCons (dB gTuple (aCons (dVar 5) aNil)) aNil))))))
def m__paper : List PyData → Option PyData := fnP ["table", "reached", "turn", "rows", "at", "columns"] 3 b__paper
theorem ok__paper (F : Std K mg "_paper" s__paper ["table", "reached", "turn"]) (T : Tx K mg)  : Cal P w K mg base 1 "_paper" ["table", "reached", "turn"] (spP K m__paper) := by
  refine calP F sc__paper (fun f cdv A outer s H E Z hr => ?_)
  unfold b__paper
  exact (scons (ssetLc (i := 3) rfl sc__paper.nd rfl rfl (sw_true rfl rfl rfl (by decide +kernel)) (pir1 (by rfl) T.b_range (dcb call_len ok_len (by rfl) T.b_len boot_len (dac (dv 0) danil))) (blkOk_by (own := [("at", 4)]) (N := ["table", "reached", "turn", "rows", "at", "columns"]) (sc := defScope s__paper) (by decide +kernel)) (fun _ _ _ _ _ => pg_name (i := 4) sc__paper.nd rfl (by first | exact .inl rfl | exact .inr rfl)) (fun _ _ _ _ _ _ => tynil) (fun _ _ _ _ _ _ => (dif_ (dtind (hu_of hr) (dtup (dac di (dac (dv 4) danil))) (dv 1)) (du un_neg ok_neg (dv 2)) di)))
  (scons (ssetLc (i := 5) rfl sc__paper.nd rfl rfl (sw_true rfl rfl rfl (by decide +kernel)) (pir1 (by rfl) T.b_range (dcb call_len ok_len (by rfl) T.b_len boot_len (dac (dix ix_seq ok_ix (dv 0) di) danil))) (blkOk_by (own := [("at", 4)]) (N := ["table", "reached", "turn", "rows", "at", "columns"]) (sc := defScope s__paper) (by decide +kernel)) (fun _ _ _ _ _ => pg_name (i := 4) sc__paper.nd rfl (by first | exact .inl rfl | exact .inr rfl)) (fun _ _ _ _ _ _ => tynil) (fun _ _ _ _ _ _ => (dif_ (dtind (hu_of hr) (dtup (dac di (dac (dv 4) danil))) (dv 1)) (dv 2) di)))
  (sone (sret (dtup (dac (dcty call_tuple_of ok_tuple (by rfl) T.b_tuple (by decide +kernel) (dac (dv 3) danil)) (dac (dcty call_tuple_of ok_tuple (by rfl) T.b_tuple (by decide +kernel) (dac (dv 5) danil)) danil)))))))
/-! #### _turned -/
abbrev s__turned : Stmt := topS 20
theorem sc__turned : FnScope ["table", "places", "many", "turns", "place", "sign", "column", "count", "at", "row"] ["table", "places", "many"] (defScope s__turned) := ⟨rfl, rfl, rfl, by decide +kernel, rfl, by decide +kernel, by decide +kernel⟩
def b__turned : DS := (sSeq (sSet 3 (dDcT (itA (dVar 1)) [4, 5] (tgT [(tgN 4), (tgN 5)]) tYesD (dVar 4) (dOp gMulA (dVar 5) (dVar 2))))
  (sRet (dB gTuple (aCons (dL (fLcT (itE (dVar 0)) [8, 9] (tgT [(tgN 8), (tgN 9)]) tYesD (dB gTuple (aCons (dL (fLcT (itE (dVar 9)) [6, 7] (tgT [(tgN 6), (tgN 7)]) tYesD (dOp gAdd (dVar 7) (dGet2 (dVar 3) (dTup (aCons (dVar 8) (aCons (dVar 6) aNil))) (dC (.int 0)))))) aNil)))) aNil))))
def m__turned : List PyData → Option PyData := fnP ["table", "places", "many", "turns", "place", "sign", "column", "count", "at", "row"] 3 b__turned
theorem ok__turned (F : Std K mg "_turned" s__turned ["table", "places", "many"]) (T : Tx K mg)  : Cal P w K mg base 1 "_turned" ["table", "places", "many"] (spP K m__turned) := by
  refine calP F sc__turned (fun f cdv A outer s H E Z hr => ?_)
  unfold b__turned
  exact (scons (sset (i := 3) sc__turned.nd rfl (by first | exact .inl rfl | exact .inr rfl) (ddcT hr.units0 rfl sc__turned.nd (piG (pia (dv 1))) (blkOk_by (own := [("place", 4), ("sign", 5)]) (N := ["table", "places", "many", "turns", "place", "sign", "column", "count", "at", "row"]) (sc := defScope s__turned) (by decide +kernel)) (fun _ _ _ _ _ => (pg_tup rfl (pgs_cons (pg_name (i := 4) sc__turned.nd rfl (by first | exact .inl rfl | exact .inr rfl)) (pgs_cons (pg_name (i := 5) sc__turned.nd rfl (by first | exact .inl rfl | exact .inr rfl)) pgs_nil)))) (wgt rfl (wgscons (wgn (i := 4)) (wgscons (wgn (i := 5)) wgsnil))) (fun _ _ _ _ _ _ => tynil) (fun _ _ _ _ _ _ => (dv 4)) (fun _ _ _ _ _ _ => (do_ op_mulA ok_mulA (dv 5) (dv 2)))))
  (sone (sret (dcty call_tuple_of ok_tuple (by rfl) T.b_tuple (by decide +kernel) (dac (dfr (flcT rfl sc__turned.nd (pienum (by rfl) T.b_enumerate (dv 0)) (blkOk_by (own := [("at", 8), ("row", 9)]) (N := ["table", "places", "many", "turns", "place", "sign", "column", "count", "at", "row"]) (sc := defScope s__turned) (by decide +kernel)) (fun _ _ _ _ _ => (pg_tup rfl (pgs_cons (pg_name (i := 8) sc__turned.nd rfl (by first | exact .inl rfl | exact .inr rfl)) (pgs_cons (pg_name (i := 9) sc__turned.nd rfl (by first | exact .inl rfl | exact .inr rfl)) pgs_nil)))) (wgt rfl (wgscons (wgn (i := 8)) (wgscons (wgn (i := 9)) wgsnil))) (fun _ _ _ _ _ _ => tynil) (fun _ _ _ _ _ _ => (dcty call_tuple_of ok_tuple (by rfl) T.b_tuple (by decide +kernel) (dac (dfr (flcT rfl sc__turned.nd (pienum (by rfl) T.b_enumerate (dv 9)) (blkOk_by (own := [("column", 6), ("count", 7)]) (N := ["table", "places", "many", "turns", "place", "sign", "column", "count", "at", "row"]) (sc := relS _ (defScope s__turned)) (by decide +kernel)) (fun _ _ _ _ _ => (pg_tup rfl (pgs_cons (pg_name (i := 6) sc__turned.nd rfl (by first | exact .inl rfl | exact .inr rfl)) (pgs_cons (pg_name (i := 7) sc__turned.nd rfl (by first | exact .inl rfl | exact .inr rfl)) pgs_nil)))) (wgt rfl (wgscons (wgn (i := 6)) (wgscons (wgn (i := 7)) wgsnil))) (fun _ _ _ _ _ _ => tynil) (fun _ _ _ _ _ _ => (do_ op_addA ok_add (dv 7) (dget2 (hu_of hr) (dv 3) (dtup (dac (dv 8) (dac (dv 6) danil))) di))))) danil))))) danil)))))
/-! #### _bound -/
abbrev s__bound : Stmt := topS 15
theorem sc__bound : FnScope ["counts", "hidden", "place", "turn", "others", "other", "begin", "goal", "table", "came", "many", "paper"] ["counts", "hidden", "place", "turn"] (defScope s__bound) := ⟨rfl, rfl, rfl, by decide +kernel, rfl, by decide +kernel, by decide +kernel⟩
def b__bound : DS := (sSeq (sSet 4 (dL (fLc (itA (dVar 1)) 5 (dTst (dOp gNe (dVar 5) (dVar 2))) (dVar 5))))
  (sSeq (sAsg (dIf (dTst (dOp gEq (dVar 3) (dC d_LEAST))) (dTup (aCons (dTup (aCons (dC (.int 0)) (aCons (dOp gIx (dVar 2) (dC (.int 0))) aNil))) (aCons (dTup (aCons (dC (.int 1)) (aCons (dOp gIx (dVar 2) (dC (.int 1))) aNil))) aNil))) (dTup (aCons (dTup (aCons (dC (.int 1)) (aCons (dOp gIx (dVar 2) (dC (.int 1))) aNil))) (aCons (dTup (aCons (dC (.int 0)) (aCons (dOp gIx (dVar 2) (dC (.int 0))) aNil))) aNil)))) (tgT [(tgN 6), (tgN 7)]))
  (sSeq (sSet 8 (dVar 0))
  (sSeq (sSet 9 (dCall m__reached (aCons (dVar 8) (aCons (dVar 4) (aCons (dVar 6) aNil)))))
  (sSeq (sSet 10 (dCall m__most_round (aCons (dVar 8) (aCons (dVar 2) (aCons (dVar 3) (aCons (dVar 9) (aCons (dVar 7) aNil)))))))
  (sSeq (sWhile (dTst (dOp gGt (dVar 10) (dC (.int 0))))
  (sSeq (sSet 8 (dCall m__turned (aCons (dVar 8) (aCons (dCall m__places_round (aCons (dVar 2) (aCons (dVar 3) (aCons (dVar 9) (aCons (dVar 7) aNil))))) (aCons (dVar 10) aNil)))))
  (sSeq (sSet 9 (dCall m__reached (aCons (dVar 8) (aCons (dVar 4) (aCons (dVar 6) aNil)))))
  (sSet 10 (dCall m__most_round (aCons (dVar 8) (aCons (dVar 2) (aCons (dVar 3) (aCons (dVar 9) (aCons (dVar 7) aNil))))))))) bigF)
  (sSeq (sSet 11 (dCall m__paper (aCons (dVar 8) (aCons (dIf (dTst (dOp (gInD false) (dVar 7) (dVar 9))) (dC (.dict [(.none, .none)])) (dVar 9)) (aCons (dVar 3) aNil)))))
  (sRet (dTup (aCons (dOp gIx (dOp gIx (dVar 8) (dOp gIx (dVar 2) (dC (.int 0)))) (dOp gIx (dVar 2) (dC (.int 1)))) (aCons (dVar 8) (aCons (dVar 11) aNil))))))))))))
def m__bound : List PyData → Option PyData := fnP ["counts", "hidden", "place", "turn", "others", "other", "begin", "goal", "table", "came", "many", "paper"] 4 b__bound
theorem ok__bound (F : Std K mg "_bound" s__bound ["counts", "hidden", "place", "turn"]) (T : Tx K mg) (c__reached : Cal P w K mg base 2 "_reached" ["table", "others", "begin"] (spP K m__reached)) (c__most_round : Cal P w K mg base 2 "_most_round" ["table", "place", "turn", "came", "goal"] (spP K m__most_round)) (c__turned : Cal P w K mg base 1 "_turned" ["table", "places", "many"] (spP K m__turned)) (c__places_round : Cal P w K mg base 1 "_places_round" ["place", "turn", "came", "goal"] (spP K m__places_round)) (c__paper : Cal P w K mg base 1 "_paper" ["table", "reached", "turn"] (spP K m__paper)) : Cal P w K mg base 3 "_bound" ["counts", "hidden", "place", "turn"] (spP K m__bound) := by
  refine calP F sc__bound (fun f cdv A outer s H E Z hr => ?_)
  unfold b__bound
  exact (scons (ssetLc (i := 4) rfl sc__bound.nd rfl rfl (sw_true rfl rfl rfl (by decide +kernel)) (pia (dv 1)) (blkOk_by (own := [("other", 5)]) (N := ["counts", "hidden", "place", "turn", "others", "other", "begin", "goal", "table", "came", "many", "paper"]) (sc := defScope s__bound) (by decide +kernel)) (fun _ _ _ _ _ => pg_name (i := 5) sc__bound.nd rfl (by first | exact .inl rfl | exact .inr rfl)) (fun _ _ _ _ _ _ => (pts_one (dtcmp (op_neA hr.units) ok_ne (dv 5) (dv 2) (nomark _)))) (fun _ _ _ _ _ _ => (dv 5)))
  (scons (sasg (dif_ (dtcmp (op_eqA hr.units) ok_eq (dv 3) (dgc (by rfl) T.c_LEAST) (nomark _)) (dtup (dac (dtup (dac di (dac (dix ix_seq ok_ix (dv 2) di) danil))) (dac (dtup (dac di (dac (dix ix_seq ok_ix (dv 2) di) danil))) danil))) (dtup (dac (dtup (dac di (dac (dix ix_seq ok_ix (dv 2) di) danil))) (dac (dtup (dac di (dac (dix ix_seq ok_ix (dv 2) di) danil))) danil)))) (pg_tup rfl (pgs_cons (pg_name (i := 6) sc__bound.nd rfl (by first | exact .inl rfl | exact .inr rfl)) (pgs_cons (pg_name (i := 7) sc__bound.nd rfl (by first | exact .inl rfl | exact .inr rfl)) pgs_nil))) (tgt rfl (tgscons tgn (tgscons tgn tgsnil))))
  (scons (sset (i := 8) sc__bound.nd rfl (by first | exact .inl rfl | exact .inr rfl) (dv 0))
  (scons (sset (i := 9) sc__bound.nd rfl (by first | exact .inl rfl | exact .inr rfl) (dcl c__reached hr (by decide) (by rfl) (dac (dv 8) (dac (dv 4) (dac (dv 6) danil)))))
  (scons (sset (i := 10) sc__bound.nd rfl (by first | exact .inl rfl | exact .inr rfl) (dcl c__most_round hr (by decide) (by rfl) (dac (dv 8) (dac (dv 2) (dac (dv 3) (dac (dv 9) (dac (dv 7) danil)))))))
  (scons (swhile bigF PassesOwn.never (dtcmp op_gt ok_gt (dv 10) di (nomark _))
  (scons (sset (i := 8) sc__bound.nd rfl (by first | exact .inl rfl | exact .inr rfl) (dcl c__turned hr (by decide) (by rfl) (dac (dv 8) (dac (dcl c__places_round hr (by decide) (by rfl) (dac (dv 2) (dac (dv 3) (dac (dv 9) (dac (dv 7) danil))))) (dac (dv 10) danil)))))
  (scons (sset (i := 9) sc__bound.nd rfl (by first | exact .inl rfl | exact .inr rfl) (dcl c__reached hr (by decide) (by rfl) (dac (dv 8) (dac (dv 4) (dac (dv 6) danil)))))
  (sone (sset (i := 10) sc__bound.nd rfl (by first | exact .inl rfl | exact .inr rfl) (dcl c__most_round hr (by decide) (by rfl) (dac (dv 8) (dac (dv 2) (dac (dv 3) (dac (dv 9) (dac (dv 7) danil)))))))))))
  (scons (sset (i := 11) sc__bound.nd rfl (by first | exact .inl rfl | exact .inr rfl) (dcl c__paper hr (by decide) (by rfl) (dac (dv 8) (dac (dif_ (dtind (hu_of hr) (dv 7) (dv 9)) ddctT (dv 9)) (dac (dv 3) danil)))))
  (sone (sret (dtup (dac (dix ix_seq ok_ix (dix ix_seq ok_ix (dv 8) (dix ix_seq ok_ix (dv 2) di)) (dix ix_seq ok_ix (dv 2) di)) (dac (dv 8) (dac (dv 11) danil)))))))))))))
/-! #### bounds_at -/
abbrev s_bounds_at : Stmt := topS 12
theorem sc_bounds_at : FnScope ["counts", "hidden", "place"] ["counts", "hidden", "place"] (defScope s_bounds_at) := ⟨rfl, rfl, rfl, by decide +kernel, rfl, by decide +kernel, by decide +kernel⟩
def b_bounds_at : DSx := (xsSeq (xsDrop (xCall m__check_counts (aCons (dVar 0) aNil)))
  (xsSeq (xsDrop (xCall m__check_places (aCons (dVar 0) (aCons (dVar 1) aNil))))
  (xsSeq (xsDrop (xCall m__check_place (aCons (dVar 1) (aCons (dVar 2) aNil))))
  (xsUp (sRet (dTup (aStar (dCall m__bound (aCons (dVar 0) (aCons (dVar 1) (aCons (dVar 2) (aCons (dC d_LEAST) aNil))))) (aStar (dCall m__bound (aCons (dVar 0) (aCons (dVar 1) (aCons (dVar 2) (aCons (dC d_GREATEST) aNil))))) aNil))))))))
def m_bounds_at : List PyData → Option (Rx PyData) := fnX ["counts", "hidden", "place"] 3 b_bounds_at
theorem ok_bounds_at (F : Std K mg "bounds_at" s_bounds_at ["counts", "hidden", "place"]) (T : Tx K mg) (c__check_counts : CalX P w K mg base 3 "_check_counts" ["thing"] (spX K mg m__check_counts)) (c__check_places : CalX P w K mg base 3 "_check_places" ["counts", "thing"] (spX K mg m__check_places)) (c__check_place : CalX P w K mg base 2 "_check_place" ["hidden", "thing"] (spX K mg m__check_place)) (c__bound : Cal P w K mg base 3 "_bound" ["counts", "hidden", "place", "turn"] (spP K m__bound)) : CalX P w K mg base 4 "bounds_at" ["counts", "hidden", "place"] (spX K mg m_bounds_at) := by
  refine calX F sc_bounds_at (fun f cdv A outer s H E Z hr => ?_)
  unfold b_bounds_at
  exact (xscons (xsdrop (xcl (L2.takes_of rfl rfl rfl rfl) c__check_counts hr (by decide) (by rfl) (dac (dv 0) danil)))
  (xscons (xsdrop (xcl (L2.takes_of rfl rfl rfl rfl) c__check_places hr (by decide) (by rfl) (dac (dv 0) (dac (dv 1) danil))))
  (xscons (xsdrop (xcl (L2.takes_of rfl rfl rfl rfl) c__check_place hr (by decide) (by rfl) (dac (dv 1) (dac (dv 2) danil))))
  (xsone (xsup (sret (dtup (dastar (dcl c__bound hr (by decide) (by rfl) (dac (dv 0) (dac (dv 1) (dac (dv 2) (dac (dgc (by rfl) T.c_LEAST) danil))))) (dastar (dcl c__bound hr (by decide) (by rfl) (dac (dv 0) (dac (dv 1) (dac (dv 2) (dac (dgc (by rfl) T.c_GREATEST) danil))))) danil)))))))))
/-! #### _is_sure -/
abbrev s__is_sure : Stmt := topS 14
theorem sc__is_sure : FnScope ["counts", "hidden", "place"] ["counts", "hidden", "place"] (defScope s__is_sure) := ⟨rfl, rfl, rfl, by decide +kernel, rfl, by decide +kernel, by decide +kernel⟩
def b__is_sure : DS := (sRet (dOp gEq (dOp gIx (dCall m__bound (aCons (dVar 0) (aCons (dVar 1) (aCons (dVar 2) (aCons (dC d_LEAST) aNil))))) (dC (.int 0))) (dOp gIx (dCall m__bound (aCons (dVar 0) (aCons (dVar 1) (aCons (dVar 2) (aCons (dC d_GREATEST) aNil))))) (dC (.int 0)))))
def m__is_sure : List PyData → Option PyData := fnP ["counts", "hidden", "place"] 3 b__is_sure
theorem ok__is_sure (F : Std K mg "_is_sure" s__is_sure ["counts", "hidden", "place"]) (T : Tx K mg) (c__bound : Cal P w K mg base 3 "_bound" ["counts", "hidden", "place", "turn"] (spP K m__bound)) : Cal P w K mg base 4 "_is_sure" ["counts", "hidden", "place"] (spP K m__is_sure) := by
  refine calP F sc__is_sure (fun f cdv A outer s H E Z hr => ?_)
  unfold b__is_sure
  exact (sone (sret (dcmp (op_eqA hr.units) ok_eq (dix ix_seq ok_ix (dcl c__bound hr (by decide) (by rfl) (dac (dv 0) (dac (dv 1) (dac (dv 2) (dac (dgc (by rfl) T.c_LEAST) danil))))) di) (dix ix_seq ok_ix (dcl c__bound hr (by decide) (by rfl) (dac (dv 0) (dac (dv 1) (dac (dv 2) (dac (dgc (by rfl) T.c_GREATEST) danil))))) di) (nomark _))))
/-! #### given_away -/
abbrev s_given_away : Stmt := topS 13
theorem sc_given_away : FnScope ["counts", "hidden", "place"] ["counts", "hidden"] (defScope s_given_away) := ⟨rfl, rfl, rfl, by decide +kernel, rfl, by decide +kernel, by decide +kernel⟩
def b_given_away : DSx := (xsSeq (xsDrop (xCall m__check_counts (aCons (dVar 0) aNil)))
  (xsSeq (xsDrop (xCall m__check_places (aCons (dVar 0) (aCons (dVar 1) aNil))))
  (xsUp (sRet (dB gTuple (aCons (dL (fLc (itA (dVar 1)) 2 (dTst (dCall m__is_sure (aCons (dVar 0) (aCons (dVar 1) (aCons (dVar 2) aNil))))) (dVar 2))) aNil))))))
def m_given_away : List PyData → Option (Rx PyData) := fnX ["counts", "hidden", "place"] 2 b_given_away
theorem ok_given_away (F : Std K mg "given_away" s_given_away ["counts", "hidden"]) (T : Tx K mg) (c__check_counts : CalX P w K mg base 3 "_check_counts" ["thing"] (spX K mg m__check_counts)) (c__check_places : CalX P w K mg base 3 "_check_places" ["counts", "thing"] (spX K mg m__check_places)) (c__is_sure : Cal P w K mg base 4 "_is_sure" ["counts", "hidden", "place"] (spP K m__is_sure)) : CalX P w K mg base 5 "given_away" ["counts", "hidden"] (spX K mg m_given_away) := by
  refine calX F sc_given_away (fun f cdv A outer s H E Z hr => ?_)
  unfold b_given_away
  exact (xscons (xsdrop (xcl (L2.takes_of rfl rfl rfl rfl) c__check_counts hr (by decide) (by rfl) (dac (dv 0) danil)))
  (xscons (xsdrop (xcl (L2.takes_of rfl rfl rfl rfl) c__check_places hr (by decide) (by rfl) (dac (dv 0) (dac (dv 1) danil))))
  (xsone (xsup (sret (dcty call_tuple_of ok_tuple (by rfl) T.b_tuple (by decide +kernel) (dac (dfr (flc rfl sc_given_away.nd (pia (dv 1)) (blkOk_by (own := [("place", 2)]) (N := ["counts", "hidden", "place"]) (sc := defScope s_given_away) (by decide +kernel)) (fun _ _ _ _ _ => pg_name (i := 2) sc_given_away.nd rfl (by first | exact .inl rfl | exact .inr rfl)) (fun _ _ _ _ _ _ => (pts_one (dt (dcl c__is_sure hr (by decide) (by rfl) (dac (dv 0) (dac (dv 1) (dac (dv 2) danil))))))) (fun _ _ _ _ _ _ => (dv 2)))) danil)))))))
/-! #### _law_left -/
abbrev s__law_left : Stmt := topS 32
theorem sc__law_left : FnScope ["_law_table", "_law_hidden_here", "_law_rows", "_law_row", "_law_column", "_law_line", "_law_columns"] ["_law_table", "_law_hidden_here"] (defScope s__law_left) := ⟨rfl, rfl, rfl, by decide +kernel, rfl, by decide +kernel, by decide +kernel⟩
def b__law_left : DS := (sSeq (sSet 2 (dL (fLc (itR1 (dB gLen (aCons (dVar 0) aNil))) 5 tYesD (dB gSum (aCons (dL (fLcT (itA (dVar 1)) [3, 4] (tgT [(tgN 3), (tgN 4)]) (dTst (dOp gEq (dVar 3) (dVar 5))) (dOp gIx (dOp gIx (dVar 0) (dVar 3)) (dVar 4)))) aNil)))))
  (sSeq (sOwn 6 (fLst aNil))
  (sSeq (sFor (itR1 (dB gLen (aCons (dOp gIx (dVar 0) (dC (.int 0))) aNil))) (tgN 5)
  (sApp 6 (dB gSum (aCons (dL (fLcT (itA (dVar 1)) [3, 4] (tgT [(tgN 3), (tgN 4)]) (dTst (dOp gEq (dVar 4) (dVar 5))) (dOp gIx (dOp gIx (dVar 0) (dVar 3)) (dVar 4)))) aNil))))
  (sSeq (sFrz 6) (sRet (dOp gAdd (dVar 2) (dVar 6)))))))
def m__law_left : List PyData → Option PyData := fnP ["_law_table", "_law_hidden_here", "_law_rows", "_law_row", "_law_column", "_law_line", "_law_columns"] 2 b__law_left
theorem ok__law_left (F : Std K mg "_law_left" s__law_left ["_law_table", "_law_hidden_here"]) (T : Tx K mg)  : Cal P w K mg base 1 "_law_left" ["_law_table", "_law_hidden_here"] (spP K m__law_left) := by
  refine calP F sc__law_left (fun f cdv A outer s H E Z hr => ?_)
  unfold b__law_left
  exact (scons (ssetLc (i := 2) rfl sc__law_left.nd rfl rfl (sw_true rfl rfl rfl (by decide +kernel)) (pir1 (by rfl) T.b_range (dcb call_len ok_len (by rfl) T.b_len boot_len (dac (dv 0) danil))) (blkOk_by (own := [("_law_line", 5)]) (N := ["_law_table", "_law_hidden_here", "_law_rows", "_law_row", "_law_column", "_law_line", "_law_columns"]) (sc := defScope s__law_left) (by decide +kernel)) (fun _ _ _ _ _ => pg_name (i := 5) sc__law_left.nd rfl (by first | exact .inl rfl | exact .inr rfl)) (fun _ _ _ _ _ _ => tynil) (fun _ _ _ _ _ _ => (dcb (cr_sum rfl) ok_sum (by rfl) T.b_sum (by decide +kernel) (dac (dfr (flcT rfl sc__law_left.nd (piG (pia (dv 1))) (blkOk_by (own := [("_law_row", 3), ("_law_column", 4)]) (N := ["_law_table", "_law_hidden_here", "_law_rows", "_law_row", "_law_column", "_law_line", "_law_columns"]) (sc := relS _ (defScope s__law_left)) (by decide +kernel)) (fun _ _ _ _ _ => (pg_tup rfl (pgs_cons (pg_name (i := 3) sc__law_left.nd rfl (by first | exact .inl rfl | exact .inr rfl)) (pgs_cons (pg_name (i := 4) sc__law_left.nd rfl (by first | exact .inl rfl | exact .inr rfl)) pgs_nil)))) (wgt rfl (wgscons (wgn (i := 3)) (wgscons (wgn (i := 4)) wgsnil))) (fun _ _ _ _ _ _ => (pts_one (dtcmp (op_eqA hr.units) ok_eq (dv 3) (dv 5) (nomark _)))) (fun _ _ _ _ _ _ => (dix ix_seq ok_ix (dix ix_seq ok_ix (dv 0) (dv 3)) (dv 4))))) danil))))
  (scons (sown (i := 6) sc__law_left.nd rfl (by first | exact .inl rfl | exact .inr rfl) (flst danil))
  (scons (sfor PassesOwn.never rfl (pir1 (by rfl) T.b_range (dcb call_len ok_len (by rfl) T.b_len boot_len (dac (dix ix_seq ok_ix (dv 0) di) danil))) (pg_name (i := 5) sc__law_left.nd rfl (by first | exact .inl rfl | exact .inr rfl)) tgn
  (sone (sapp 6 (pv 6) (dcb (cr_sum rfl) ok_sum (by rfl) T.b_sum (by decide +kernel) (dac (dfr (flcT rfl sc__law_left.nd (piG (pia (dv 1))) (blkOk_by (own := [("_law_row", 3), ("_law_column", 4)]) (N := ["_law_table", "_law_hidden_here", "_law_rows", "_law_row", "_law_column", "_law_line", "_law_columns"]) (sc := defScope s__law_left) (by decide +kernel)) (fun _ _ _ _ _ => (pg_tup rfl (pgs_cons (pg_name (i := 3) sc__law_left.nd rfl (by first | exact .inl rfl | exact .inr rfl)) (pgs_cons (pg_name (i := 4) sc__law_left.nd rfl (by first | exact .inl rfl | exact .inr rfl)) pgs_nil)))) (wgt rfl (wgscons (wgn (i := 3)) (wgscons (wgn (i := 4)) wgsnil))) (fun _ _ _ _ _ _ => (pts_one (dtcmp (op_eqA hr.units) ok_eq (dv 4) (dv 5) (nomark _)))) (fun _ _ _ _ _ _ => (dix ix_seq ok_ix (dix ix_seq ok_ix (dv 0) (dv 3)) (dv 4))))) danil)))))
  (sfrz (i := 6) (sone (sret (do_ op_addA ok_add (dv 2) (dv 6))))))))
/-! #### _law_whole -/
abbrev s__law_whole : Stmt := topS 33
theorem sc__law_whole : FnScope ["_law_thing"] ["_law_thing"] (defScope s__law_whole) := ⟨rfl, rfl, rfl, by decide +kernel, rfl, by decide +kernel, by decide +kernel⟩
def b__law_whole : DS := (sRet (dAnd (dUn (gIsi "int") (dVar 0)) (dNot (dUn (gIsi "bool") (dVar 0)))))
def m__law_whole : List PyData → Option PyData := fnP ["_law_thing"] 1 b__law_whole
theorem ok__law_whole (F : Std K mg "_law_whole" s__law_whole ["_law_thing"]) (T : Tx K mg)  : Cal P w K mg base 1 "_law_whole" ["_law_thing"] (spP K m__law_whole) := by
  refine calP F sc__law_whole (fun f cdv A outer s H E Z hr => ?_)
  unfold b__law_whole
  exact (sone (sret (dand (disi isi_int (by rfl) T.b_isinstance (by decide +kernel) (by rfl) T.b_int (by decide +kernel) (dv 0)) (pe_one (dnot (disi isi_bool (by rfl) T.b_isinstance (by decide +kernel) (by rfl) T.b_bool (by decide +kernel) (dv 0)))))))
/-! #### _law_paper -/
abbrev s__law_paper : Stmt := topS 35
theorem sc__law_paper : FnScope ["_law_counts_here", "_law_hidden_here", "_law_place", "_law_number", "_law_thing", "_law_sign", "_law_numbers", "_law_one", "_law_row", "_law_column", "_law_here", "_law_left_here", "_law_by"] ["_law_counts_here", "_law_hidden_here", "_law_place", "_law_number", "_law_thing", "_law_sign"] (defScope s__law_paper) := ⟨rfl, rfl, rfl, by decide +kernel, rfl, by decide +kernel, by decide +kernel⟩
def b__law_paper : DS := (sSeq (sIf (dOrT (dNotT (dTst (dUn (gIsi "tuple") (dVar 4)))) (dOrT (dTst (dOp gNe (dB gLen (aCons (dVar 4) aNil)) (dC (.int 2)))) (dNotT (dTst (dUn (gIsi "tuple") (dOp gIx (dVar 4) (dC (.int 0))))))))
  (sRet (dC (.bool false)))
  sNil)
  (sSeq (sIf (dOrT (dNotT (dTst (dUn (gIsi "tuple") (dOp gIx (dVar 4) (dC (.int 1)))))) (dOrT (dTst (dOp gNe (dB gLen (aCons (dOp gIx (dVar 4) (dC (.int 0))) aNil)) (dB gLen (aCons (dVar 0) aNil)))) (dTst (dOp gNe (dB gLen (aCons (dOp gIx (dVar 4) (dC (.int 1))) aNil)) (dB gLen (aCons (dOp gIx (dVar 0) (dC (.int 0))) aNil))))))
  (sRet (dC (.bool false)))
  sNil)
  (sSeq (sSet 6 (dOp gAdd (dOp gIx (dVar 4) (dC (.int 0))) (dOp gIx (dVar 4) (dC (.int 1)))))
  (sSeq (sIf (dTst (dOp gNe (dL (fLc (itA (dVar 6)) 7 (dNotT (dTst (dCall m__law_whole (aCons (dVar 7) aNil)))) (dC (.int 1)))) (dL (fLst aNil))))
  (sRet (dC (.bool false)))
  sNil)
  (sSeq (sFor (itA (dVar 1)) (tgT [(tgN 8), (tgN 9)])
  (sSeq (sSet 10 (dOp gAdd (dOp gIx (dOp gIx (dVar 4) (dC (.int 0))) (dVar 8)) (dOp gIx (dOp gIx (dVar 4) (dC (.int 1))) (dVar 9))))
  (sIf (dTst (dOp gGt (dOp gMulA (dOp gSub (dVar 10) (dB gInt1 (aCons (dOp gEq (dTup (aCons (dVar 8) (aCons (dVar 9) aNil))) (dVar 2)) aNil))) (dVar 5)) (dC (.int 0))))
  (sRet (dC (.bool false)))
  sNil)))
  (sSeq (sSet 11 (dCall m__law_left (aCons (dVar 0) (aCons (dVar 1) aNil))))
  (sRet (dOp gEq (dB gSum (aCons (dL (fLcT (itZB (dVar 6) (dVar 11)) [7, 12] (tgT [(tgN 7), (tgN 12)]) tYesD (dOp gMulA (dVar 7) (dVar 12)))) aNil)) (dVar 3)))))))))
def m__law_paper : List PyData → Option PyData := fnP ["_law_counts_here", "_law_hidden_here", "_law_place", "_law_number", "_law_thing", "_law_sign", "_law_numbers", "_law_one", "_law_row", "_law_column", "_law_here", "_law_left_here", "_law_by"] 6 b__law_paper
theorem ok__law_paper (F : Std K mg "_law_paper" s__law_paper ["_law_counts_here", "_law_hidden_here", "_law_place", "_law_number", "_law_thing", "_law_sign"]) (T : Tx K mg) (c__law_whole : Cal P w K mg base 1 "_law_whole" ["_law_thing"] (spP K m__law_whole)) (c__law_left : Cal P w K mg base 1 "_law_left" ["_law_table", "_law_hidden_here"] (spP K m__law_left)) : Cal P w K mg base 2 "_law_paper" ["_law_counts_here", "_law_hidden_here", "_law_place", "_law_number", "_law_thing", "_law_sign"] (spP K m__law_paper) := by
  refine calP F sc__law_paper (fun f cdv A outer s H E Z hr => ?_)
  unfold b__law_paper
  exact (scons (sif (PW.pt (dtor (dtnot (dt (disi isi_tuple (by rfl) T.b_isinstance (by decide +kernel) (by rfl) T.b_tuple (by decide +kernel) (dv 4)))) (dtor (dtcmp (op_neA hr.units) ok_ne (dcb call_len ok_len (by rfl) T.b_len boot_len (dac (dv 4) danil)) di (nomark _)) (pw_or1 (dtnot (dt (disi isi_tuple (by rfl) T.b_isinstance (by decide +kernel) (by rfl) T.b_tuple (by decide +kernel) (dix ix_seq ok_ix (dv 4) di))))))))
  (sone (sret db))
  snil)
  (scons (sif (PW.pt (dtor (dtnot (dt (disi isi_tuple (by rfl) T.b_isinstance (by decide +kernel) (by rfl) T.b_tuple (by decide +kernel) (dix ix_seq ok_ix (dv 4) di)))) (dtor (dtcmp (op_neA hr.units) ok_ne (dcb call_len ok_len (by rfl) T.b_len boot_len (dac (dix ix_seq ok_ix (dv 4) di) danil)) (dcb call_len ok_len (by rfl) T.b_len boot_len (dac (dv 0) danil)) (nomark _)) (pw_or1 (dtcmp (op_neA hr.units) ok_ne (dcb call_len ok_len (by rfl) T.b_len boot_len (dac (dix ix_seq ok_ix (dv 4) di) danil)) (dcb call_len ok_len (by rfl) T.b_len boot_len (dac (dix ix_seq ok_ix (dv 0) di) danil)) (nomark _))))))
  (sone (sret db))
  snil)
  (scons (sset (i := 6) sc__law_paper.nd rfl (by first | exact .inl rfl | exact .inr rfl) (do_ op_addA ok_add (dix ix_seq ok_ix (dv 4) di) (dix ix_seq ok_ix (dv 4) di)))
  (scons (sif (dtcmp (op_neA hr.units) ok_ne (dfr (flc rfl sc__law_paper.nd (pia (dv 6)) (blkOk_by (own := [("_law_one", 7)]) (N := ["_law_counts_here", "_law_hidden_here", "_law_place", "_law_number", "_law_thing", "_law_sign", "_law_numbers", "_law_one", "_law_row", "_law_column", "_law_here", "_law_left_here", "_law_by"]) (sc := defScope s__law_paper) (by decide +kernel)) (fun _ _ _ _ _ => pg_name (i := 7) sc__law_paper.nd rfl (by first | exact .inl rfl | exact .inr rfl)) (fun _ _ _ _ _ _ => (pts_one (dtnot (dt (dcl c__law_whole hr (by decide) (by rfl) (dac (dv 7) danil)))))) (fun _ _ _ _ _ _ => di))) (dfr (flst danil)) (nomark _))
  (sone (sret db))
  snil)
  (scons (sfor PassesOwn.never rfl (pia (dv 1)) (pg_tup rfl (pgs_cons (pg_name (i := 8) sc__law_paper.nd rfl (by first | exact .inl rfl | exact .inr rfl)) (pgs_cons (pg_name (i := 9) sc__law_paper.nd rfl (by first | exact .inl rfl | exact .inr rfl)) pgs_nil))) (tgt rfl (tgscons tgn (tgscons tgn tgsnil)))
  (scons (sset (i := 10) sc__law_paper.nd rfl (by first | exact .inl rfl | exact .inr rfl) (do_ op_addA ok_add (dix ix_seq ok_ix (dix ix_seq ok_ix (dv 4) di) (dv 8)) (dix ix_seq ok_ix (dix ix_seq ok_ix (dv 4) di) (dv 9))))
  (sone (sif (dtcmp op_gt ok_gt (do_ op_mulA ok_mulA (do_ op_sub ok_sub (dv 10) (dcty call_int1 ok_int1 (by rfl) T.b_int (by decide +kernel) (dac (dcmp (op_eqA hr.units) ok_eq (dtup (dac (dv 8) (dac (dv 9) danil))) (dv 2) (nomark _)) danil))) (dv 5)) di (nomark _))
  (sone (sret db))
  snil))))
  (scons (sset (i := 11) sc__law_paper.nd rfl (by first | exact .inl rfl | exact .inr rfl) (dcl c__law_left hr (by decide) (by rfl) (dac (dv 0) (dac (dv 1) danil))))
  (sone (sret (dcmp (op_eqA hr.units) ok_eq (dcb (cr_sum rfl) ok_sum (by rfl) T.b_sum (by decide +kernel) (dac (dfr (flcT rfl sc__law_paper.nd (pizipB (by rfl) T.b_zip (dv 6) (dv 11)) (blkOk_by (own := [("_law_one", 7), ("_law_by", 12)]) (N := ["_law_counts_here", "_law_hidden_here", "_law_place", "_law_number", "_law_thing", "_law_sign", "_law_numbers", "_law_one", "_law_row", "_law_column", "_law_here", "_law_left_here", "_law_by"]) (sc := defScope s__law_paper) (by decide +kernel)) (fun _ _ _ _ _ => (pg_tup rfl (pgs_cons (pg_name (i := 7) sc__law_paper.nd rfl (by first | exact .inl rfl | exact .inr rfl)) (pgs_cons (pg_name (i := 12) sc__law_paper.nd rfl (by first | exact .inl rfl | exact .inr rfl)) pgs_nil)))) (wgt rfl (wgscons (wgn (i := 7)) (wgscons (wgn (i := 12)) wgsnil))) (fun _ _ _ _ _ _ => tynil) (fun _ _ _ _ _ _ => (do_ op_mulA ok_mulA (dv 7) (dv 12))))) danil)) (dv 3) (nomark _))))))))))
/-! #### _law_can_be -/
abbrev s__law_can_be : Stmt := topS 34
theorem sc__law_can_be : FnScope ["_law_counts_here", "_law_hidden_here", "_law_thing", "_law_row", "_law_line", "_law_column", "_law_one"] ["_law_counts_here", "_law_hidden_here", "_law_thing"] (defScope s__law_can_be) := ⟨rfl, rfl, rfl, by decide +kernel, rfl, by decide +kernel, by decide +kernel⟩
def b__law_can_be : DS := (sSeq (sIf (dOrT (dNotT (dTst (dUn (gIsi "tuple") (dVar 2)))) (dTst (dOp gNe (dB gLen (aCons (dVar 2) aNil)) (dB gLen (aCons (dVar 0) aNil)))))
  (sRet (dC (.bool false)))
  sNil)
  (sSeq (sFor (itE (dVar 2)) (tgT [(tgN 3), (tgN 4)])
  (sSeq (sIf (dOrT (dNotT (dTst (dUn (gIsi "tuple") (dVar 4)))) (dTst (dOp gNe (dB gLen (aCons (dVar 4) aNil)) (dB gLen (aCons (dOp gIx (dVar 0) (dC (.int 0))) aNil)))))
  (sRet (dC (.bool false)))
  sNil)
  (sFor (itE (dVar 4)) (tgT [(tgN 5), (tgN 6)])
  (sSeq (sIf (dOrT (dNotT (dTst (dCall m__law_whole (aCons (dVar 6) aNil)))) (dTst (dOp gLt (dVar 6) (dC (.int 0)))))
  (sRet (dC (.bool false)))
  sNil)
  (sIf (dAndT (dTst (dOp (gInT true) (dTup (aCons (dVar 3) (aCons (dVar 5) aNil))) (dVar 1))) (dTst (dOp gNe (dVar 6) (dOp gIx (dOp gIx (dVar 0) (dVar 3)) (dVar 5)))))
  (sRet (dC (.bool false)))
  sNil)))))
  (sRet (dOp gEq (dCall m__law_left (aCons (dVar 2) (aCons (dVar 1) aNil))) (dCall m__law_left (aCons (dVar 0) (aCons (dVar 1) aNil)))))))
def m__law_can_be : List PyData → Option PyData := fnP ["_law_counts_here", "_law_hidden_here", "_law_thing", "_law_row", "_law_line", "_law_column", "_law_one"] 3 b__law_can_be
theorem ok__law_can_be (F : Std K mg "_law_can_be" s__law_can_be ["_law_counts_here", "_law_hidden_here", "_law_thing"]) (T : Tx K mg) (c__law_whole : Cal P w K mg base 1 "_law_whole" ["_law_thing"] (spP K m__law_whole)) (c__law_left : Cal P w K mg base 1 "_law_left" ["_law_table", "_law_hidden_here"] (spP K m__law_left)) : Cal P w K mg base 2 "_law_can_be" ["_law_counts_here", "_law_hidden_here", "_law_thing"] (spP K m__law_can_be) := by
  refine calP F sc__law_can_be (fun f cdv A outer s H E Z hr => ?_)
  unfold b__law_can_be
  exact (scons (sif (PW.pt (dtor (dtnot (dt (disi isi_tuple (by rfl) T.b_isinstance (by decide +kernel) (by rfl) T.b_tuple (by decide +kernel) (dv 2)))) (pw_or1 (dtcmp (op_neA hr.units) ok_ne (dcb call_len ok_len (by rfl) T.b_len boot_len (dac (dv 2) danil)) (dcb call_len ok_len (by rfl) T.b_len boot_len (dac (dv 0) danil)) (nomark _)))))
  (sone (sret db))
  snil)
  (scons (sforG PassesOwn.never rfl (pienum (by rfl) T.b_enumerate (dv 2)) (pg_tup rfl (pgs_cons (pg_name (i := 3) sc__law_can_be.nd rfl (by first | exact .inl rfl | exact .inr rfl)) (pgs_cons (pg_name (i := 4) sc__law_can_be.nd rfl (by first | exact .inl rfl | exact .inr rfl)) pgs_nil))) (tgt rfl (tgscons tgn (tgscons tgn tgsnil)))
  (scons (sif (PW.pt (dtor (dtnot (dt (disi isi_tuple (by rfl) T.b_isinstance (by decide +kernel) (by rfl) T.b_tuple (by decide +kernel) (dv 4)))) (pw_or1 (dtcmp (op_neA hr.units) ok_ne (dcb call_len ok_len (by rfl) T.b_len boot_len (dac (dv 4) danil)) (dcb call_len ok_len (by rfl) T.b_len boot_len (dac (dix ix_seq ok_ix (dv 0) di) danil)) (nomark _)))))
  (sone (sret db))
  snil)
  (sone (sforG PassesOwn.never rfl (pienum (by rfl) T.b_enumerate (dv 4)) (pg_tup rfl (pgs_cons (pg_name (i := 5) sc__law_can_be.nd rfl (by first | exact .inl rfl | exact .inr rfl)) (pgs_cons (pg_name (i := 6) sc__law_can_be.nd rfl (by first | exact .inl rfl | exact .inr rfl)) pgs_nil))) (tgt rfl (tgscons tgn (tgscons tgn tgsnil)))
  (scons (sif (PW.pt (dtor (dtnot (dt (dcl c__law_whole hr (by decide) (by rfl) (dac (dv 6) danil)))) (pw_or1 (dtcmp op_ltA ok_lt (dv 6) di (nomark _)))))
  (sone (sret db))
  snil)
  (sone (sif (PW.pt (dtand (dtcmp (op_notInT (hu65 hr)) ok_inT (dtup (dac (dv 3) (dac (dv 5) danil))) (dv 1) (by first | rfl | with_unfolding_all rfl)) (pw_and1 (dtcmp (op_neA hr.units) ok_ne (dv 6) (dix ix_seq ok_ix (dix ix_seq ok_ix (dv 0) (dv 3)) (dv 5)) (nomark _)))))
  (sone (sret db))
  snil)))))))
  (sone (sret (dcmp (op_eqA hr.units) ok_eq (dcl c__law_left hr (by decide) (by rfl) (dac (dv 2) (dac (dv 1) danil))) (dcl c__law_left hr (by decide) (by rfl) (dac (dv 0) (dac (dv 1) danil))) (nomark _))))))
/-! #### _law_shows -/
abbrev s__law_shows : Stmt := topS 36
theorem sc__law_shows : FnScope ["_law_counts_here", "_law_hidden_here", "_law_place", "_law_thing", "_law_at", "_law_sign", "_law_number", "_law_table", "_law_paper_here"] ["_law_counts_here", "_law_hidden_here", "_law_place", "_law_thing"] (defScope s__law_shows) := ⟨rfl, rfl, rfl, by decide +kernel, rfl, by decide +kernel, by decide +kernel⟩
def b__law_shows : DS := (sSeq (sIf (dOrT (dNotT (dTst (dUn (gIsi "tuple") (dVar 3)))) (dTst (dOp gNe (dB gLen (aCons (dVar 3) aNil)) (dC (.int 6)))))
  (sRet (dC (.bool false)))
  sNil)
  (sSeq (sFor (itA (dTup (aCons (dTup (aCons (dC (.int 0)) (aCons (dC (.int 1)) aNil))) (aCons (dTup (aCons (dC (.int 3)) (aCons (dUn gNeg (dC (.int 1))) aNil))) aNil)))) (tgT [(tgN 4), (tgN 5)])
  (sSeq (sAsg (dSl (dVar 3) (oS (dVar 4)) (oS (dOp gAdd (dVar 4) (dC (.int 3))))) (tgT [(tgN 6), (tgN 7), (tgN 8)]))
  (sSeq (sIf (dOrT (dNotT (dTst (dCall m__law_whole (aCons (dVar 6) aNil)))) (dNotT (dTst (dCall m__law_can_be (aCons (dVar 0) (aCons (dVar 1) (aCons (dVar 7) aNil)))))))
  (sRet (dC (.bool false)))
  sNil)
  (sSeq (sIf (dTst (dOp gNe (dOp gIx (dOp gIx (dVar 7) (dOp gIx (dVar 2) (dC (.int 0)))) (dOp gIx (dVar 2) (dC (.int 1)))) (dVar 6)))
  (sRet (dC (.bool false)))
  sNil)
  (sIf (dNotT (dTst (dCall m__law_paper (aCons (dVar 0) (aCons (dVar 1) (aCons (dVar 2) (aCons (dVar 6) (aCons (dVar 8) (aCons (dVar 5) aNil)))))))))
  (sRet (dC (.bool false)))
  sNil)))))
  (sRet (dC (.bool true)))))
def m__law_shows : List PyData → Option PyData := fnP ["_law_counts_here", "_law_hidden_here", "_law_place", "_law_thing", "_law_at", "_law_sign", "_law_number", "_law_table", "_law_paper_here"] 4 b__law_shows
theorem ok__law_shows (F : Std K mg "_law_shows" s__law_shows ["_law_counts_here", "_law_hidden_here", "_law_place", "_law_thing"]) (T : Tx K mg) (c__law_can_be : Cal P w K mg base 2 "_law_can_be" ["_law_counts_here", "_law_hidden_here", "_law_thing"] (spP K m__law_can_be)) (c__law_whole : Cal P w K mg base 1 "_law_whole" ["_law_thing"] (spP K m__law_whole)) (c__law_paper : Cal P w K mg base 2 "_law_paper" ["_law_counts_here", "_law_hidden_here", "_law_place", "_law_number", "_law_thing", "_law_sign"] (spP K m__law_paper)) : Cal P w K mg base 3 "_law_shows" ["_law_counts_here", "_law_hidden_here", "_law_place", "_law_thing"] (spP K m__law_shows) := by
  refine calP F sc__law_shows (fun f cdv A outer s H E Z hr => ?_)
  unfold b__law_shows
  exact (scons (sif (PW.pt (dtor (dtnot (dt (disi isi_tuple (by rfl) T.b_isinstance (by decide +kernel) (by rfl) T.b_tuple (by decide +kernel) (dv 3)))) (pw_or1 (dtcmp (op_neA hr.units) ok_ne (dcb call_len ok_len (by rfl) T.b_len boot_len (dac (dv 3) danil)) di (nomark _)))))
  (sone (sret db))
  snil)
  (scons (sfor PassesOwn.never rfl (pia (dtup (dac (dtup (dac di (dac di danil))) (dac (dtup (dac di (dac (du un_neg ok_neg di) danil))) danil)))) (pg_tup rfl (pgs_cons (pg_name (i := 4) sc__law_shows.nd rfl (by first | exact .inl rfl | exact .inr rfl)) (pgs_cons (pg_name (i := 5) sc__law_shows.nd rfl (by first | exact .inl rfl | exact .inr rfl)) pgs_nil))) (tgt rfl (tgscons tgn (tgscons tgn tgsnil)))
  (scons (sasg (dsl (dv 3) (dos (dv 4)) (dos (do_ op_addA ok_add (dv 4) di))) (pg_tup rfl (pgs_cons (pg_name (i := 6) sc__law_shows.nd rfl (by first | exact .inl rfl | exact .inr rfl)) (pgs_cons (pg_name (i := 7) sc__law_shows.nd rfl (by first | exact .inl rfl | exact .inr rfl)) (pgs_cons (pg_name (i := 8) sc__law_shows.nd rfl (by first | exact .inl rfl | exact .inr rfl)) pgs_nil)))) (tgt rfl (tgscons tgn (tgscons tgn (tgscons tgn tgsnil)))))
  (scons (sif (PW.pt (dtor (dtnot (dt (dcl c__law_whole hr (by decide) (by rfl) (dac (dv 6) danil)))) (pw_or1 (dtnot (dt (dcl c__law_can_be hr (by decide) (by rfl) (dac (dv 0) (dac (dv 1) (dac (dv 7) danil)))))))))
  (sone (sret db))
  snil)
  (scons (sif (dtcmp (op_neA hr.units) ok_ne (dix ix_seq ok_ix (dix ix_seq ok_ix (dv 7) (dix ix_seq ok_ix (dv 2) di)) (dix ix_seq ok_ix (dv 2) di)) (dv 6) (nomark _))
  (sone (sret db))
  snil)
  (sone (sif (dtnot (dt (dcl c__law_paper hr (by decide) (by rfl) (dac (dv 0) (dac (dv 1) (dac (dv 2) (dac (dv 6) (dac (dv 8) (dac (dv 5) danil)))))))))
  (sone (sret db))
  snil))))))
  (sone (sret db))))
/-! #### law -/
abbrev s_law : Stmt := topS 37
theorem sc_law : FnScope ["_law_script", "_law_k", "_law_pot_here", "_law_counts_here", "_law_hidden_here", "_law_due", "_law_place", "_law_told", "_law_mates", "_law_other", "_law_others", "_law_square", "~tab"] ["_law_script"] (defScope s_law) := ⟨rfl, rfl, rfl, by decide +kernel, rfl, by decide +kernel, by decide +kernel⟩
def b_law : DS := (sSeq (sFor (itR1 (dB gMax2 (aCons (dC (.int 1)) (aCons (dB gMin (aCons (dC (.int 6)) (aCons (dB gLen (aCons (dVar 0) aNil)) aNil))) aNil)))) (tgN 1)
  (sSeq (sOwn 2 (fCall m__law_pot (aCons (dVar 0) (aCons (dVar 1) aNil))))
  (sSeq (sSet 3 (dCallM m__law_counts 2 aNil))
  (sSeq (sSet 4 (dCallM m__law_hidden 2 (aCons (dVar 3) aNil)))
  (sSeq (sOwn 5 (fLst aNil))
  (sSeq (sFor (itA (dVar 4)) (tgN 6)
  (sSeq (sSet 7 (dCall (okOf m_bounds_at) (aCons (dVar 3) (aCons (dVar 4) (aCons (dVar 6) aNil)))))
  (sSeq (sIf (dNotT (dTst (dCall m__law_shows (aCons (dVar 3) (aCons (dVar 4) (aCons (dVar 6) (aCons (dVar 7) aNil)))))))
  (sRet (dC (.bool false)))
  sNil)
  (sSeq (sIf (dTst (dOp gEq (dOp gIx (dVar 7) (dC (.int 0))) (dOp gIx (dVar 7) (dC (.int 3)))))
  (sApp 5 (dVar 6))
  sNil)
  (sSeq (sSet 8 (dL (fLc (itA (dVar 4)) 9 (dAndT (dTst (dOp gNe (dVar 9) (dVar 6))) (dTst (dOp gEq (dOp gIx (dVar 9) (dC (.int 0))) (dOp gIx (dVar 6) (dC (.int 0)))))) (dC (.int 1)))))
  (sSeq (sSet 10 (dL (fLc (itA (dVar 4)) 9 (dAndT (dTst (dOp gNe (dVar 9) (dVar 6))) (dTst (dOp gEq (dOp gIx (dVar 9) (dC (.int 1))) (dOp gIx (dVar 6) (dC (.int 1)))))) (dC (.int 1)))))
  (sIf (dAndT (dOrT (dTst (dOp gEq (dVar 8) (dL (fLst aNil)))) (dTst (dOp gEq (dVar 10) (dL (fLst aNil))))) (dTst (dOp gNe (dOp gIx (dVar 7) (dC (.int 0))) (dOp gIx (dVar 7) (dC (.int 3))))))
  (sRet (dC (.bool false)))
  sNil)))))))
  (sSeq (sFrz 5) (sIf (dTst (dOp gNe (dB gRepr (aCons (dCall (okOf m_given_away) (aCons (dVar 3) (aCons (dVar 4) aNil))) aNil)) (dB gRepr (aCons (dB gTuple (aCons (dVar 5) aNil)) aNil))))
  (sRet (dC (.bool false)))
  sNil))))))))
  (sSeq (sSet 11 (dTup (aCons (dTup (aCons (dC (.int 0)) (aCons (dC (.int 0)) aNil))) (aCons (dTup (aCons (dC (.int 0)) (aCons (dC (.int 1)) aNil))) (aCons (dTup (aCons (dC (.int 1)) (aCons (dC (.int 0)) aNil))) (aCons (dTup (aCons (dC (.int 1)) (aCons (dC (.int 1)) aNil))) aNil))))))
  (sSeq (sIf (dOrT (dTst (dOp gNe (dCall (okOf m_given_away) (aCons (dTup (aCons (dTup (aCons (dC (.int 0)) (aCons (dC (.int 0)) aNil))) (aCons (dTup (aCons (dC (.int 0)) (aCons (dC (.int 4)) aNil))) aNil))) (aCons (dVar 11) aNil))) (dVar 11))) (dTst (dOp gNe (dCall (okOf m_given_away) (aCons (dTup (aCons (dTup (aCons (dC (.int 1)) (aCons (dC (.int 0)) aNil))) (aCons (dTup (aCons (dC (.int 0)) (aCons (dC (.int 1)) aNil))) aNil))) (aCons (dVar 11) aNil))) (dTup aNil))))
  (sRet (dC (.bool false)))
  sNil)
  (sRet (dAnd (dOp gEq (dCall (okOf m_given_away) (aCons (dTup (aCons (dTup (aCons (dC (.int 1)) (aCons (dC (.int 2)) aNil))) aNil)) (aCons (dTup aNil) aNil))) (dTup aNil)) (dOp gEq (dCall (okOf m_given_away) (aCons (dTup (aCons (dTup (aCons (dC (.int 7)) aNil)) aNil)) (aCons (dTup (aCons (dTup (aCons (dC (.int 0)) (aCons (dC (.int 0)) aNil))) aNil)) aNil))) (dTup (aCons (dTup (aCons (dC (.int 0)) (aCons (dC (.int 0)) aNil))) aNil))))))))
def m_law : List PyData → Option PyData := fnP ["_law_script", "_law_k", "_law_pot_here", "_law_counts_here", "_law_hidden_here", "_law_due", "_law_place", "_law_told", "_law_mates", "_law_other", "_law_others", "_law_square", "~tab"] 1 b_law
theorem ok_law (T : Tx K mg) (Fx : ExF K mg nm_ ts_)  (c__law_pot : Cal P w K mg base 1 "_law_pot" ["_law_script", "_law_k"] (spF K m__law_pot)) (c__law_counts : Cal P w K mg base 2 "_law_counts" ["_law_pot_here"] (spM K m__law_counts)) (c__law_hidden : Cal P w K mg base 2 "_law_hidden" ["_law_pot_here", "_law_counts_here"] (spM K m__law_hidden)) (c_bounds_at : CalX P w K mg base 4 "bounds_at" ["counts", "hidden", "place"] (spX K mg m_bounds_at)) (c__law_shows : Cal P w K mg base 3 "_law_shows" ["_law_counts_here", "_law_hidden_here", "_law_place", "_law_thing"] (spP K m__law_shows)) (c_given_away : CalX P w K mg base 5 "given_away" ["counts", "hidden"] (spX K mg m_given_away)) (f c Tb : Addr) (A : Around) (outer : List Env) (s : Shared) (H : Hp) (E : XK) (Z : Par) (hr : Room 6 (A.deeper (envOfC "law" (defScope s_law) s.heap.objs.size f (.ref c)))) (cg : CG (cxOf CX0 P w K mg base ["_law_script", "_law_k", "_law_pot_here", "_law_counts_here", "_law_hidden_here", "_law_due", "_law_place", "_law_told", "_law_mates", "_law_other", "_law_others", "_law_square", "~tab"] "law" (defScope s_law) f (.ref c) A outer s H E).nox) (TB : LamX.TabB base mg c Tb) (hZ : Z.p = some Tb) : PSs (cxOf CX0 P w K mg base ["_law_script", "_law_k", "_law_pot_here", "_law_counts_here", "_law_hidden_here", "_law_due", "_law_place", "_law_told", "_law_mates", "_law_other", "_law_others", "_law_square", "~tab"] "law" (defScope s_law) f (.ref c) A outer s H E).nox (defBody s_law) (lfS K Z b_law) := by
  unfold b_law
  exact (scons (sfor PassesOwn.never rfl (pir1 (by rfl) T.b_range (dcb (call_max2 rfl) ok_max2 (by rfl) T.b_max (by decide +kernel) (dac di (dac (dcb (call_minA rfl) ok_minA (by rfl) T.b_min (by decide +kernel) (dac di (dac (dcb call_len ok_len (by rfl) T.b_len boot_len (dac (dv 0) danil)) danil))) danil)))) (pg_name (i := 1) sc_law.nd rfl (by first | exact .inl rfl | exact .inr rfl)) tgn
  (scons (sown (i := 2) sc_law.nd rfl (by first | exact .inl rfl | exact .inr rfl) (fcl c__law_pot hr (by decide) (by rfl) (dac (dv 0) (dac (dv 1) danil))))
  (scons (sset (i := 3) sc_law.nd rfl (by first | exact .inl rfl | exact .inr rfl) (dclM 2 c__law_counts hr (by decide) (by rfl) (pv 2) danil))
  (scons (sset (i := 4) sc_law.nd rfl (by first | exact .inl rfl | exact .inr rfl) (dclM 2 c__law_hidden hr (by decide) (by rfl) (pv 2) (dac (dv 3) danil)))
  (scons (sown (i := 5) sc_law.nd rfl (by first | exact .inl rfl | exact .inr rfl) (flst danil))
  (scons (sfor PassesOwn.never rfl (pia (dv 4)) (pg_name (i := 6) sc_law.nd rfl (by first | exact .inl rfl | exact .inr rfl)) tgn
  (scons (sset (i := 7) sc_law.nd rfl (by first | exact .inl rfl | exact .inr rfl) (dclX c_bounds_at hr (by decide) (by rfl) (dac (dv 3) (dac (dv 4) (dac (dv 6) danil)))))
  (scons (sif (dtnot (dt (dcl c__law_shows hr (by decide) (by rfl) (dac (dv 3) (dac (dv 4) (dac (dv 6) (dac (dv 7) danil)))))))
  (sone (sret db))
  snil)
  (scons (sif (dtcmp (op_eqA hr.units) ok_eq (dix ix_seq ok_ix (dv 7) di) (dix ix_seq ok_ix (dv 7) di) (nomark _))
  (sone (sapp 5 (pv 5) (dv 6)))
  snil)
  (scons (ssetLc (i := 8) rfl sc_law.nd rfl rfl (sw_true rfl rfl rfl (by decide +kernel)) (pia (dv 4)) (blkOk_by (own := [("_law_other", 9)]) (N := ["_law_script", "_law_k", "_law_pot_here", "_law_counts_here", "_law_hidden_here", "_law_due", "_law_place", "_law_told", "_law_mates", "_law_other", "_law_others", "_law_square", "~tab"]) (sc := defScope s_law) (by decide +kernel)) (fun _ _ _ _ _ => pg_name (i := 9) sc_law.nd rfl (by first | exact .inl rfl | exact .inr rfl)) (fun _ _ _ _ _ _ => (pts_one (PW.pt (dtand (dtcmp (op_neA hr.units) ok_ne (dv 9) (dv 6) (nomark _)) (pw_and1 (dtcmp (op_eqA hr.units) ok_eq (dix ix_seq ok_ix (dv 9) di) (dix ix_seq ok_ix (dv 6) di) (nomark _))))))) (fun _ _ _ _ _ _ => di))
  (scons (ssetLc (i := 10) rfl sc_law.nd rfl rfl (sw_true rfl rfl rfl (by decide +kernel)) (pia (dv 4)) (blkOk_by (own := [("_law_other", 9)]) (N := ["_law_script", "_law_k", "_law_pot_here", "_law_counts_here", "_law_hidden_here", "_law_due", "_law_place", "_law_told", "_law_mates", "_law_other", "_law_others", "_law_square", "~tab"]) (sc := defScope s_law) (by decide +kernel)) (fun _ _ _ _ _ => pg_name (i := 9) sc_law.nd rfl (by first | exact .inl rfl | exact .inr rfl)) (fun _ _ _ _ _ _ => (pts_one (PW.pt (dtand (dtcmp (op_neA hr.units) ok_ne (dv 9) (dv 6) (nomark _)) (pw_and1 (dtcmp (op_eqA hr.units) ok_eq (dix ix_seq ok_ix (dv 9) di) (dix ix_seq ok_ix (dv 6) di) (nomark _))))))) (fun _ _ _ _ _ _ => di))
  (sone (sif (PW.pt (dtand (PW.pt (dtor (dtcmp (op_eqA hr.units) ok_eq (dv 8) (dfr (flst danil)) (nomark _)) (pw_or1 (dtcmp (op_eqA hr.units) ok_eq (dv 10) (dfr (flst danil)) (nomark _))))) (pw_and1 (dtcmp (op_neA hr.units) ok_ne (dix ix_seq ok_ix (dv 7) di) (dix ix_seq ok_ix (dv 7) di) (nomark _)))))
  (sone (sret db))
  snil))))))))
  (sfrz (i := 5) (sone (sif (dtcmp (op_neA hr.units) ok_ne (dcb (call_repr cg) ok_repr (by rfl) T.b_repr (by decide +kernel) (dac (dclX c_given_away hr (by decide) (by rfl) (dac (dv 3) (dac (dv 4) danil))) danil)) (dcb (call_repr cg) ok_repr (by rfl) T.b_repr (by decide +kernel) (dac (dcty call_tuple_of ok_tuple (by rfl) T.b_tuple (by decide +kernel) (dac (dv 5) danil)) danil)) (nomark _))
  (sone (sret db))
  snil)))))))))
  (scons (sset (i := 11) sc_law.nd rfl (by first | exact .inl rfl | exact .inr rfl) (dtup (dac (dtup (dac di (dac di danil))) (dac (dtup (dac di (dac di danil))) (dac (dtup (dac di (dac di danil))) (dac (dtup (dac di (dac di danil))) danil))))))
  (scons (sif (PW.pt (dtor (dtcmp (op_neA hr.units) ok_ne (dclX c_given_away hr (by decide) (by rfl) (dac (dtup (dac (dtup (dac di (dac di danil))) (dac (dtup (dac di (dac di danil))) danil))) (dac (dv 11) danil))) (dv 11) (nomark _)) (pw_or1 (dtcmp (op_neA hr.units) ok_ne (dclX c_given_away hr (by decide) (by rfl) (dac (dtup (dac (dtup (dac di (dac di danil))) (dac (dtup (dac di (dac di danil))) danil))) (dac (dv 11) danil))) (dtup danil) (nomark _)))))
  (sone (sret db))
  snil)
  (sone (sret (dand (dcmp (op_eqA hr.units) ok_eq (dclX c_given_away hr (by decide) (by rfl) (dac (dtup (dac (dtup (dac di (dac di danil))) danil)) (dac (dtup danil) danil))) (dtup danil) (nomark _)) (pe_one (dcmp (op_eqA hr.units) ok_eq (dclX c_given_away hr (by decide) (by rfl) (dac (dtup (dac (dtup (dac di danil)) danil)) (dac (dtup (dac (dtup (dac di (dac di danil))) danil)) danil))) (dtup (dac (dtup (dac di (dac di danil))) danil)) (nomark _)))))))))
end
end K70

namespace K70
open PySem PySem.Spec PyProof.Rows L2 Dl
def fn_ : List He.DefD := [dOf "_law_pot" s__law_pot, dOf "_law_take" s__law_take, dOf "_law_counts" s__law_counts, dOf "_law_hidden" s__law_hidden, dOf "is_whole" s_is_whole, dOf "_is_row" s__is_row, dOf "_check_counts" s__check_counts, dOf "_is_place" s__is_place, dOf "_check_places" s__check_places, dOf "_check_place" s__check_place, dOf "_lines_behind" s__lines_behind, dOf "_reached" s__reached, dOf "_places_round" s__places_round, dOf "_most_round" s__most_round, dOf "_paper" s__paper, dOf "_turned" s__turned, dOf "_bound" s__bound, dOf "bounds_at" s_bounds_at, dOf "_is_sure" s__is_sure, dOf "given_away" s_given_away, dOf "_law_left" s__law_left, dOf "_law_whole" s__law_whole, dOf "_law_paper" s__law_paper, dOf "_law_can_be" s__law_can_be, dOf "_law_shows" s__law_shows, dOf "law" s_law]
def fa_ : List He.Fa := [.glo "_law_pot", .glo "_law_take", .glo "_law_counts", .glo "_law_hidden", .glo "is_whole", .glo "_is_row", .glo "_check_counts", .glo "_is_place", .glo "_check_places", .glo "_check_place", .glo "_lines_behind", .glo "_reached", .glo "_places_round", .glo "_most_round", .glo "_paper", .glo "_turned", .glo "_bound", .glo "bounds_at", .glo "_is_sure", .glo "given_away", .glo "_law_left", .glo "_law_whole", .glo "_law_paper", .glo "_law_can_be", .glo "_law_shows", .glo "law", .free "abs", .free "all", .free "bool", .free "enumerate", .free "int", .free "isinstance", .free "len", .free "max", .free "min", .free "range", .free "repr", .free "sum", .free "tuple", .free "zip"]
def cs_ : List (Str × PyData) := [("GREATEST", d_GREATEST), ("LEAST", d_LEAST), ("MOST_LINES", d_MOST_LINES), ("TOP_COUNT", d_TOP_COUNT)]
def names_0 : List Str := [("AskError" : Str), ("NoCounts" : Str), ("NoPlaces" : Str), ("NoPlace" : Str), ("is_whole" : Str), ("MOST_LINES" : Str), ("TOP_COUNT" : Str), ("LEAST" : Str), ("GREATEST" : Str), ("bounds_at" : Str), ("given_away" : Str), ("_is_sure" : Str), ("_bound" : Str), ("_reached" : Str), ("_lines_behind" : Str), ("_places_round" : Str), ("_most_round" : Str), ("_turned" : Str), ("_paper" : Str), ("_check_counts" : Str), ("_is_row" : Str), ("_check_places" : Str), ("_is_place" : Str), ("_check_place" : Str), ("_law_pot" : Str), ("_law_take" : Str), ("_law_counts" : Str), ("_law_hidden" : Str), ("_law_left" : Str), ("_law_whole" : Str), ("_law_can_be" : Str), ("_law_paper" : Str), ("_law_shows" : Str)]
def names_ : List Str := names_0
abbrev R_ : PySem.W.OpenRow := PySem.W.OpenLaw.row PySem.Challenge.rw_askround_k70_given_away
abbrev hk_ : PySem.W.Hook := He.hookX 5 fa_ fn_ [] [lawD] (exB cs_ nm_ ts_)
def ob_ (s : PySem.W.SharedT) : He.AlX := He.obsX 5 fa_ fn_ [] [lawD] (exB cs_ nm_ ts_) (HandSHeadRun.getT s)
theorem ob_eq (s : PySem.W.SharedT) : ob_ s = hk_.obs s.abs := He.obsX_eq (HandSHeadRun.getT_eq s)
theorem run_ (w : World) : HandSHeadRun.RunEq R_ (PySem.W.view R_.prog [37]) hk_ ob_ 30000 names_ w := by
  intro os
  kernel_rfl
theorem facts_ (w : World) (mg : Str → Option Value) (h : Heap) (K : PySem.W.Frag) (X : K.In h) (G : h.Ns mainGlobals mg) (c : He.SaysD fa_ fn_ K) (cc : cs_.all (gcB K) = true) (Fx : ExF K mg nm_ ts_) : ∃ fd : FuncData, mg "law" = some (.ref (He.fAd K lawD)) ∧ Fun K "law" "law" s_law (He.fAd K lawD) fd ∧ (∀ (s : Shared) (u : Value), BindsTo s fd ⟨[u], []⟩ [("_law_script", u)]) ∧
      ∀ (base : Heap) (c T : Addr) (s : Shared) (H : Hp) (Z : Par), Mod K mg base → Room 6 (callerA.deeper (envOfC "law" (defScope s_law) s.heap.objs.size (He.fAd K lawD) (.ref c))) → CG (cxOf CX0 R_.prog w K mg base ["_law_script", "_law_k", "_law_pot_here", "_law_counts_here", "_law_hidden_here", "_law_due", "_law_place", "_law_told", "_law_mates", "_law_other", "_law_others", "_law_square", "~tab"] "law" (defScope s_law) (He.fAd K lawD) (.ref c) callerA [] s H E0).nox → LamX.TabB base mg c T → Z.p = some T →
        PSs (cxOf CX0 R_.prog w K mg base ["_law_script", "_law_k", "_law_pot_here", "_law_counts_here", "_law_hidden_here", "_law_due", "_law_place", "_law_told", "_law_mates", "_law_other", "_law_others", "_law_square", "~tab"] "law" (defScope s_law) (He.fAd K lawD) (.ref c) callerA [] s H E0).nox (defBody s_law) (lfS K Z b_law) := by
  have T : Tx K mg := ⟨free_of X G c 26, free_of X G c 27, free_of X G c 28, free_of X G c 29, free_of X G c 30, free_of X G c 31, free_of X G c 32, free_of X G c 33, free_of X G c 34, free_of X G c 35, free_of X G c 36, free_of X G c 37, free_of X G c 38, free_of X G c 39, const_of X G cc 0, const_of X G cc 1, const_of X G cc 2, const_of X G cc 3⟩
  have F__law_pot : Std K mg "_law_pot" s__law_pot ["_law_script", "_law_k"] := std_of X G c 0 0 rfl rfl (fun _ _ _ _ _ _ us hl => match us, hl with | [_, _], _ => rfl)
  have F__law_take : Std K mg "_law_take" s__law_take ["_law_pot_here", "_law_many"] := std_of X G c 1 1 rfl rfl (fun _ _ _ _ _ _ us hl => match us, hl with | [_, _], _ => rfl)
  have F__law_counts : Std K mg "_law_counts" s__law_counts ["_law_pot_here"] := std_of X G c 2 2 rfl rfl (fun _ _ _ _ _ _ us hl => match us, hl with | [_], _ => rfl)
  have F__law_hidden : Std K mg "_law_hidden" s__law_hidden ["_law_pot_here", "_law_counts_here"] := std_of X G c 3 3 rfl rfl (fun _ _ _ _ _ _ us hl => match us, hl with | [_, _], _ => rfl)
  have F_is_whole : Std K mg "is_whole" s_is_whole ["thing"] := std_of X G c 4 4 rfl rfl (fun _ _ _ _ _ _ us hl => match us, hl with | [_], _ => rfl)
  have F__is_row : Std K mg "_is_row" s__is_row ["thing"] := std_of X G c 5 5 rfl rfl (fun _ _ _ _ _ _ us hl => match us, hl with | [_], _ => rfl)
  have F__check_counts : Std K mg "_check_counts" s__check_counts ["thing"] := std_of X G c 6 6 rfl rfl (fun _ _ _ _ _ _ us hl => match us, hl with | [_], _ => rfl)
  have F__is_place : Std K mg "_is_place" s__is_place ["counts", "thing"] := std_of X G c 7 7 rfl rfl (fun _ _ _ _ _ _ us hl => match us, hl with | [_, _], _ => rfl)
  have F__check_places : Std K mg "_check_places" s__check_places ["counts", "thing"] := std_of X G c 8 8 rfl rfl (fun _ _ _ _ _ _ us hl => match us, hl with | [_, _], _ => rfl)
  have F__check_place : Std K mg "_check_place" s__check_place ["hidden", "thing"] := std_of X G c 9 9 rfl rfl (fun _ _ _ _ _ _ us hl => match us, hl with | [_, _], _ => rfl)
  have F__lines_behind : Std K mg "_lines_behind" s__lines_behind ["table", "others", "line"] := std_of X G c 10 10 rfl rfl (fun _ _ _ _ _ _ us hl => match us, hl with | [_, _, _], _ => rfl)
  have F__reached : Std K mg "_reached" s__reached ["table", "others", "begin"] := std_of X G c 11 11 rfl rfl (fun _ _ _ _ _ _ us hl => match us, hl with | [_, _, _], _ => rfl)
  have F__places_round : Std K mg "_places_round" s__places_round ["place", "turn", "came", "goal"] := std_of X G c 12 12 rfl rfl (fun _ _ _ _ _ _ us hl => match us, hl with | [_, _, _, _], _ => rfl)
  have F__most_round : Std K mg "_most_round" s__most_round ["table", "place", "turn", "came", "goal"] := std_of X G c 13 13 rfl rfl (fun _ _ _ _ _ _ us hl => match us, hl with | [_, _, _, _, _], _ => rfl)
  have F__paper : Std K mg "_paper" s__paper ["table", "reached", "turn"] := std_of X G c 14 14 rfl rfl (fun _ _ _ _ _ _ us hl => match us, hl with | [_, _, _], _ => rfl)
  have F__turned : Std K mg "_turned" s__turned ["table", "places", "many"] := std_of X G c 15 15 rfl rfl (fun _ _ _ _ _ _ us hl => match us, hl with | [_, _, _], _ => rfl)
  have F__bound : Std K mg "_bound" s__bound ["counts", "hidden", "place", "turn"] := std_of X G c 16 16 rfl rfl (fun _ _ _ _ _ _ us hl => match us, hl with | [_, _, _, _], _ => rfl)
  have F_bounds_at : Std K mg "bounds_at" s_bounds_at ["counts", "hidden", "place"] := std_of X G c 17 17 rfl rfl (fun _ _ _ _ _ _ us hl => match us, hl with | [_, _, _], _ => rfl)
  have F__is_sure : Std K mg "_is_sure" s__is_sure ["counts", "hidden", "place"] := std_of X G c 18 18 rfl rfl (fun _ _ _ _ _ _ us hl => match us, hl with | [_, _, _], _ => rfl)
  have F_given_away : Std K mg "given_away" s_given_away ["counts", "hidden"] := std_of X G c 19 19 rfl rfl (fun _ _ _ _ _ _ us hl => match us, hl with | [_, _], _ => rfl)
  have F__law_left : Std K mg "_law_left" s__law_left ["_law_table", "_law_hidden_here"] := std_of X G c 20 20 rfl rfl (fun _ _ _ _ _ _ us hl => match us, hl with | [_, _], _ => rfl)
  have F__law_whole : Std K mg "_law_whole" s__law_whole ["_law_thing"] := std_of X G c 21 21 rfl rfl (fun _ _ _ _ _ _ us hl => match us, hl with | [_], _ => rfl)
  have F__law_paper : Std K mg "_law_paper" s__law_paper ["_law_counts_here", "_law_hidden_here", "_law_place", "_law_number", "_law_thing", "_law_sign"] := std_of X G c 22 22 rfl rfl (fun _ _ _ _ _ _ us hl => match us, hl with | [_, _, _, _, _, _], _ => rfl)
  have F__law_can_be : Std K mg "_law_can_be" s__law_can_be ["_law_counts_here", "_law_hidden_here", "_law_thing"] := std_of X G c 23 23 rfl rfl (fun _ _ _ _ _ _ us hl => match us, hl with | [_, _, _], _ => rfl)
  have F__law_shows : Std K mg "_law_shows" s__law_shows ["_law_counts_here", "_law_hidden_here", "_law_place", "_law_thing"] := std_of X G c 24 24 rfl rfl (fun _ _ _ _ _ _ us hl => match us, hl with | [_, _, _, _], _ => rfl)
  have F_law : Std K mg "law" s_law ["_law_script"] := std_of X G c 25 25 rfl rfl (fun _ _ _ _ _ _ us hl => match us, hl with | [_], _ => rfl)
  obtain ⟨f, fd, F, m, b⟩ := F_law
  obtain rfl : f = He.fAd K lawD := Value.ref.inj (Option.some.inj (m.symm.trans (He.glo_ok X G (c.fact 25 rfl))))
  have bt : ∀ (s : Shared) (u : Value), BindsTo s fd ⟨[u], []⟩ [("_law_script", u)] := fun s u => by
    obtain ⟨⟨_, _, _, _, _, _, _, _, _, e, _⟩, _⟩ := F
    subst e
    exact .of_eq rfl
  refine ⟨fd, m, F, bt, fun base c Tb s H Z _ hr cg TB hZ => ?_⟩
  have c__law_pot := ok__law_pot (P := R_.prog) (w := w) (base := base) F__law_pot  T  
  have c__law_take := ok__law_take (P := R_.prog) (w := w) (base := base) F__law_take  T  
  have c__law_counts := ok__law_counts (P := R_.prog) (w := w) (base := base) F__law_counts  T  c__law_take
  have c__law_hidden := ok__law_hidden (P := R_.prog) (w := w) (base := base) F__law_hidden  T  c__law_take
  have c_is_whole := ok_is_whole (P := R_.prog) (w := w) (base := base) F_is_whole  T  
  have c__is_row := ok__is_row (P := R_.prog) (w := w) (base := base) F__is_row  T  c_is_whole
  have c__check_counts := ok__check_counts (P := R_.prog) (w := w) (base := base) F__check_counts  T Fx c__is_row
  have c__is_place := ok__is_place (P := R_.prog) (w := w) (base := base) F__is_place  T  c_is_whole
  have c__check_places := ok__check_places (P := R_.prog) (w := w) (base := base) F__check_places  T Fx c__is_place
  have c__check_place := ok__check_place (P := R_.prog) (w := w) (base := base) F__check_place  T Fx c_is_whole
  have c__lines_behind := ok__lines_behind (P := R_.prog) (w := w) (base := base) F__lines_behind  T  
  have c__reached := ok__reached (P := R_.prog) (w := w) (base := base) F__reached  T  c__lines_behind
  have c__places_round := ok__places_round (P := R_.prog) (w := w) (base := base) F__places_round  T  
  have c__most_round := ok__most_round (P := R_.prog) (w := w) (base := base) F__most_round  T  c__places_round
  have c__paper := ok__paper (P := R_.prog) (w := w) (base := base) F__paper  T  
  have c__turned := ok__turned (P := R_.prog) (w := w) (base := base) F__turned  T  
  have c__bound := ok__bound (P := R_.prog) (w := w) (base := base) F__bound  T  c__reached c__most_round c__turned c__places_round c__paper
  have c_bounds_at := ok_bounds_at (P := R_.prog) (w := w) (base := base) F_bounds_at  T  c__check_counts c__check_places c__check_place c__bound
  have c__is_sure := ok__is_sure (P := R_.prog) (w := w) (base := base) F__is_sure  T  c__bound
  have c_given_away := ok_given_away (P := R_.prog) (w := w) (base := base) F_given_away  T  c__check_counts c__check_places c__is_sure
  have c__law_left := ok__law_left (P := R_.prog) (w := w) (base := base) F__law_left  T  
  have c__law_whole := ok__law_whole (P := R_.prog) (w := w) (base := base) F__law_whole  T  
  have c__law_paper := ok__law_paper (P := R_.prog) (w := w) (base := base) F__law_paper  T  c__law_whole c__law_left
  have c__law_can_be := ok__law_can_be (P := R_.prog) (w := w) (base := base) F__law_can_be  T  c__law_whole c__law_left
  have c__law_shows := ok__law_shows (P := R_.prog) (w := w) (base := base) F__law_shows  T  c__law_can_be c__law_whole c__law_paper
  exact ok_law T Fx  c__law_pot c__law_counts c__law_hidden c_bounds_at c__law_shows c_given_away (He.fAd K lawD) c Tb callerA [] s H E0 Z hr cg TB hZ
end K70

namespace K70
open PySem PySem.Spec PyProof.Rows L2 Dl
local macro_rules | `(tactic| decreasing_trivial_pre_omega) => `(tactic| (first | with_reducible refine s_seq ?_ | with_reducible refine s_if ?_ | with_reducible refine s_set ?_ | with_reducible refine s_setIx ?_ | with_reducible refine s_ret ?_ | with_reducible refine s_nil ?_ | with_reducible refine s_own ?_ | with_reducible refine s_par ?_ | with_reducible refine t_tst ?_ | with_reducible refine t_and ?_ | with_reducible refine t_or ?_ | with_reducible refine t_not ?_ | with_reducible refine t_yes ?_ | with_reducible refine e_op ?_ | with_reducible refine e_un ?_ | with_reducible refine e_chain ?_ | with_reducible refine e_b ?_ | with_reducible refine e_c ?_ | with_reducible refine e_l ?_ | with_reducible refine e_tup ?_ | with_reducible refine e_call ?_ | with_reducible refine e_and ?_ | with_reducible refine e_or ?_ | with_reducible refine e_not ?_ | with_reducible refine e_if ?_ | with_reducible refine e_sl ?_ | with_reducible refine o_n ?_ | with_reducible refine o_s ?_ | with_reducible refine a_nil ?_ | with_reducible refine a_cons ?_ | with_reducible refine f_lst ?_ | with_reducible refine f_call ?_ | with_reducible refine f_itA ?_ | with_reducible refine f_r1 ?_ | with_reducible refine r_seq ?_ | with_reducible refine n_add ?_ | with_reducible refine n_sub ?_ | with_reducible refine n_gt ?_ | with_reducible refine n_ge ?_ | with_reducible refine n_lt ?_ | with_reducible refine n_le ?_ | with_reducible refine e_var (by with_unfolding_all rfl) ?_ | with_reducible refine e_ixc (by with_unfolding_all rfl) ?_ | with_reducible refine e_callM (by with_unfolding_all rfl) ?_ | with_reducible refine s_frz (by with_unfolding_all rfl) ?_ | with_reducible refine s_app (by with_unfolding_all rfl) ?_ | refine Or.inl ⟨by first | with_reducible rfl | with_reducible exact Bool.not_false, ?_⟩ | refine Or.inr ⟨by first | with_reducible rfl | with_reducible exact Bool.not_true, ?_⟩ | refine Exists.intro _ (Exists.intro _ ⟨rfl, rfl, gd rfl ?_⟩) | refine Exists.intro _ ⟨rfl, ?_⟩))
local macro_rules | `(tactic| decreasing_trivial) => `(tactic| repeat decreasing_trivial_pre_omega)
/-- a pot of numbers after at most n takings -/
def Pot (n : Nat) (pd : List PyData) : Prop := ∃ a b c : Int, pd = [.int a, .int b, .int c] ∧ 0 ≤ a ∧ a < 10 ^ 600 ∧ 0 ≤ b ∧ b < 2 ^ 61 ∧ 0 ≤ c ∧ c ≤ n
theorem Pot.mono {n m : Nat} {pd : List PyData} (h : Pot n pd) (e : n ≤ m) : Pot m pd := by
  obtain ⟨a, b, c, e1, h1, h2, h3, h4, h5, h6⟩ := h
  exact ⟨a, b, c, e1, h1, h2, h3, h4, h5, by omega⟩
theorem take_ok {n : Nat} {pd : List PyData} {m : Int} (h : Pot n pd) (hn : n < 1000000) (hm : 1 ≤ m) (hM : m ≤ 2000000000) :
    Gd (m__law_take pd [.int m]) fun q => ∃ r : Int, q.1 = .int r ∧ 0 ≤ r ∧ r < m ∧ Pot (n + 1) q.2 := by
  obtain ⟨a, b, c, rfl, h1, h2, h3, h4, h5, h6⟩ := h
  unfold m__law_take
  refine m_fnM rfl ?_
  unfold b__law_take
  decreasing_trivial
  by_cases pos : 0 < a
  · refine .inl ⟨decide_eq_true pos, ?_⟩
    decreasing_trivial
    refine n_mod (by omega) fun l1 l2 => ?_
    decreasing_trivial
    refine n_div (by omega) (by omega) ?_
    decreasing_trivial
    have q0 : 0 ≤ a / m := Int.ediv_nonneg h1 (by omega)
    have q1 : a / m ≤ a := Int.ediv_le_self m h1
    exact ⟨l1, l2, a / m, b, c, rfl, q0, Int.lt_of_le_of_lt q1 h2, h3, h4, h5, by omega⟩
  · refine .inr ⟨decide_eq_false pos, ?_⟩
    decreasing_trivial
    have e1 : (1 : Int) ≤ c + 1 ∧ c + 1 ≤ 1000000 := by omega
    refine n_mul 40 (by decide) (by decide) (by omega) (by omega) (by decide) (by decide) ?_
    decreasing_trivial
    refine n_pow (b := 3) 62 (by omega) (by omega) (by decide) (by decide) fun p => ?_
    decreasing_trivial
    refine n_mod (by decide) fun l1 l2 => ?_
    decreasing_trivial
    refine n_mod (by decide) fun l3 l4 => ?_
    decreasing_trivial
    refine n_mul 40 (by decide) (by decide) (by omega) (by omega) (by decide) (by decide) ?_
    decreasing_trivial
    refine n_pow (b := 5) 63 (by omega) (by omega) (by decide) (by decide) fun p => ?_
    decreasing_trivial
    refine n_mod (by decide) fun l1 l2 => ?_
    decreasing_trivial
    refine n_div (by decide) (by decide) ?_
    decreasing_trivial
    refine n_mod (by omega) fun l1 l2 => ?_
    decreasing_trivial
    exact ⟨l1, l2, a, b, c + 1, rfl, h1, h2, h3, h4, by omega, by omega⟩
theorem atI_map {ns : List Int} {k : Nat} (h : k < ns.length) : atI (ns.map PyData.int) (k : Int) = some (.int ns[k]) := by
  unfold atI
  have e : ixN (ns.map PyData.int).length (k : Int) = some k := by
    unfold ixN
    rw [List.length_map]
    split <;> rename_i c
    · simp [h]
    · omega
  rw [e]
  simp [List.getElem?_map, h]
theorem pot_ok {ns : List Int} {k : Nat} (hk : k < 100) : Gd (m__law_pot [.dict [(.none, .list (ns.map .int))], .int k]) fun pd => Pot 0 pd := by
  unfold m__law_pot
  refine m_fnF rfl ?_
  unfold b__law_pot
  have fin : ∀ x : Int, 0 ≤ x → x < 10 ^ 600 → Ge ((fLst (aCons (dOp gMul (dVar 2) (dB gInt1 (aCons (dOp gGe (dVar 2) (dOp gPow (dC (.int 10)) (dC (.int 18)))) aNil))) (aCons (dOp gMod (dOp gPow (dOp gAdd (dOp gAdd (dOp gMod (dVar 2) (dC (.int 2147483629))) (dOp gMul (dC (.int 7919)) (dVar 1))) (dC (.int 1))) (dC (.int 5))) (dC (.int 2305843009213693951))) (aCons (dC (.int 0)) aNil))))
      [.dat (.dict [(.none, .list (ns.map .int))]), .dat (.int k), .dat (.int x)]) fun d _ => Pot 0 d := by
    intro x h0 h1
    decreasing_trivial
    refine n_pow (b := 18) 4 (by decide) (by decide) (by decide) (by decide) fun _ => ?_
    decreasing_trivial
    have up : (10 : Int) ^ 600 < 2 ^ 2000 := by decide +kernel
    have lo := two_pos 2000
    have out : ∀ y : Int, (y = 0 ∨ y = 1) → Gd (gMul (.int x) (.int y)) fun d => ∃ z : Int, d = .int z ∧ 0 ≤ z ∧ z < 10 ^ 600 := fun y hy => by
      refine n_mul 2000 (by omega) (by omega) ?_ ?_ (by decide) (by decide) ?_
      · rcases hy with rfl | rfl <;> omega
      · have : (1 : Int) < 2 ^ 2000 := by decide +kernel
        rcases hy with rfl | rfl <;> omega
      · rcases hy with rfl | rfl
        · exact ⟨0, by rw [Int.mul_zero], by decide, by decide +kernel⟩
        · exact ⟨x, by rw [Int.mul_one], h0, h1⟩
    refine gd (a := .int (if decide ((10 : Int) ^ 18 ≤ x) = true then 1 else 0)) rfl ?_
    refine gd_mono (out _ (by split <;> simp)) fun d hd => ?_
    obtain ⟨z, rfl, z0, z1⟩ := hd
    decreasing_trivial
    refine n_mod (by decide) fun l1 l2 => ?_
    decreasing_trivial
    refine n_mul 40 (by decide) (by decide) (by omega) (by omega) (by decide) (by decide) ?_
    decreasing_trivial
    refine n_pow (b := 5) 40 (by omega) (by omega) (by decide) (by decide) fun _ => ?_
    decreasing_trivial
    refine n_mod (by decide) fun l3 l4 => ?_
    decreasing_trivial
    exact ⟨by show 3 ≤ _; decide, z, _, 0, rfl, z0, z1, l3, by omega, by decide, by decide⟩
  decreasing_trivial
  refine gd (a := .int ((ns.map PyData.int).length : Nat)) rfl ?_
  decreasing_trivial
  by_cases c : k < ns.length
  · refine .inl ⟨decide_eq_true (by rw [List.length_map]; omega), ?_⟩
    decreasing_trivial
    refine gd (atI_map c) ?_
    decreasing_trivial
    refine gd (a := .int (if ns[k] < 0 then -ns[k] else ns[k])) rfl ?_
    decreasing_trivial
    refine n_pow (b := 60) 4 (by decide) (by decide) (by decide) (by decide) fun _ => ?_
    decreasing_trivial
    refine n_pow (b := 10) 200 (by decide +kernel) (by decide +kernel) (by decide) (by decide) fun _ => ?_
    have e : ((10 : Int) ^ 60) ^ 10 = 10 ^ 600 := by decide +kernel
    rw [e]
    refine n_mod (by decide +kernel) fun l1 l2 => ?_
    repeat (first | exact fin _ l1 l2 | decreasing_trivial_pre_omega)
  · refine .inr ⟨decide_eq_false (by rw [List.length_map]; omega), ?_⟩
    repeat (first | exact fin 0 (by decide) (by decide +kernel) | decreasing_trivial_pre_omega)

theorem pot_at {n : Nat} {pd : List PyData} (h : Pot n pd) {m : Int} (hn : n < 1000000) (hm : 1 ≤ m) (hM : m ≤ 2000000000) {D : PyData × List PyData → Prop} (k : ∀ (r : Int) (p : List PyData), 0 ≤ r → r < m → Pot (n + 1) p → D (.int r, p)) : Gd (m__law_take pd [.int m]) D :=
  gd_mono (take_ok h hn hm hM) fun q hq => by
    obtain ⟨d, p⟩ := q
    obtain ⟨r, e, h0, h1, hp⟩ := hq
    have e' : d = .int r := e
    subst e'
    exact k r p h0 h1 hp
/-! ### rules that lacked -/
theorem s_while {t : DT} {f : DS} {N : Sl → Prop} {R : PyData → Sl → Prop} {s : Sl} (I : Nat → Sl → Prop) (h : ∃ m, m < 1000000000000 ∧ I m s) (turn : ∀ m s, I m s → Ge (t s) fun b s1 => (b = true ∧ Gs (f s1) (fun s2 => ∃ m', m' < m ∧ I m' s2) R) ∨ (b = false ∧ N s1)) : Gs (sWhile t f bigF s) N R := by
  have go : ∀ (n m : Nat) (s : Sl), m < n → I m s → Gs (sWhile t f n s) N R := by
    intro n
    induction n with
    | zero => intro m s h _; exact absurd h (Nat.not_lt_zero _)
    | succ n ih =>
      intro m s hm hI
      obtain ⟨b, s1, e, ⟨rfl, h⟩ | ⟨rfl, h⟩⟩ := turn m s hI
      · obtain ⟨⟨s2, e2, m', hm', h2⟩ | ⟨d, s2, e2, h2⟩⟩ := h
        · have q : sWhile t f (n + 1) s = sWhile t f n s2 := by
            show ((t s).bind _) = _
            rw [e, Option.bind_some, if_pos rfl, e2]
            rfl
          rw [q]
          exact ih m' s2 (by omega) h2
        · refine ⟨.inr ⟨d, s2, ?_, h2⟩⟩
          show ((t s).bind _) = _
          rw [e, Option.bind_some, if_pos rfl, e2]
          rfl
      · refine ⟨.inl ⟨s1, ?_, h⟩⟩
        show ((t s).bind _) = _
        rw [e, Option.bind_some, if_neg (by simp)]
  obtain ⟨m, hm, hI⟩ := h
  exact go bigF m s (Nat.lt_of_lt_of_le hm (by decide +kernel)) hI
/-- a comprehension with several names whose parts change nothing -/
theorem f_lcT_pure {α : Type} {ff : DF} {js : List Nat} {gdt : PyData → Sl → Option Sl} {t : DT} {fa : DE} {s : Sl} {QA : List PyData → Sl → Prop} (enc : α → PyData) (T : α → Bool) (F : α → PyData)
    (h : Ge (ff s) fun ds s1 => ∃ as : List α, ds = as.map enc ∧ (js.all fun j => isNo s1[j]?) = true ∧ as.length < sizeLine ∧ (∀ a ∈ as, ∃ s0, gdt (enc a) s1 = some s0 ∧ fgS s0 js = s1 ∧ noOwnB js s0 = true ∧ Ge (t s0) (fun b s2 => b = T a ∧ s2 = s0) ∧ (T a = true → Ge (fa s0) fun x s2 => x = F a ∧ s2 = s0)) ∧ QA ((as.filter T).map F) s1) : Ge (fLcT ff js gdt t fa s) QA := by
  obtain ⟨ds, s1, e, as, rfl, no, l, turn, k⟩ := h
  have hno : ∀ j ∈ js, s1[j]? = some .no := fun j hj => isNo_eq (List.all_eq_true.mp no j hj)
  have f1 : fgS s1 js = s1 := fgS_no hno
  have go : ∀ (bs : List α) (sw : Sl), (∀ a ∈ bs, a ∈ as) → fgS sw js = s1 → lcRunT js gdt t fa (bs.map enc) sw = some ((bs.filter T).map F, s1) := by
    intro bs
    induction bs with
    | nil => intro sw _ hw; show some ([], fgS sw js) = _; rw [hw]; rfl
    | cons a r ih =>
      intro sw sub hw
      obtain ⟨s0, g1, g2, g3, tb, fb⟩ := turn a (sub a List.mem_cons_self)
      obtain ⟨b, s2, e2, rfl, rfl⟩ := tb
      have rest := ih s2 (fun x hx => sub x (List.mem_cons_of_mem _ hx)) g2
      rw [List.map_cons]
      unfold lcRunT
      rw [hw, g1, Option.bind_some, e2, Option.bind_some]
      dsimp only
      rw [if_pos g3]
      cases hT : T a with
      | true =>
        obtain ⟨x, s3, e3, rfl, rfl⟩ := fb hT
        rw [if_pos rfl, e3, Option.bind_some]
        dsimp only
        rw [if_pos g3, rest, List.filter_cons_of_pos hT]
        rfl
      | false =>
        rw [if_neg (by simp), rest, List.filter_cons_of_neg (by simp [hT])]
  refine ⟨_, s1, ?_, k⟩
  unfold fLcT
  rw [e, Option.bind_some]
  dsimp only
  rw [if_pos ⟨no, by rw [List.length_map]; exact l⟩]
  exact go as s1 (fun _ h => h) f1
end K70

/-! tables, places, lines -/
namespace K70
open PySem PySem.Spec PyProof.Rows L2 Dl
local macro_rules | `(tactic| decreasing_trivial_pre_omega) => `(tactic| (first | with_reducible refine s_seq ?_ | with_reducible refine s_if ?_ | with_reducible refine s_set ?_ | with_reducible refine s_setIx ?_ | with_reducible refine s_ret ?_ | with_reducible refine s_nil ?_ | with_reducible refine s_own ?_ | with_reducible refine s_par ?_ | with_reducible refine t_tst ?_ | with_reducible refine t_and ?_ | with_reducible refine t_or ?_ | with_reducible refine t_not ?_ | with_reducible refine t_yes ?_ | with_reducible refine e_op ?_ | with_reducible refine e_un ?_ | with_reducible refine e_chain ?_ | with_reducible refine e_b ?_ | with_reducible refine e_c ?_ | with_reducible refine e_l ?_ | with_reducible refine e_tup ?_ | with_reducible refine e_call ?_ | with_reducible refine e_and ?_ | with_reducible refine e_or ?_ | with_reducible refine e_not ?_ | with_reducible refine e_if ?_ | with_reducible refine e_sl ?_ | with_reducible refine o_n ?_ | with_reducible refine o_s ?_ | with_reducible refine a_nil ?_ | with_reducible refine a_cons ?_ | with_reducible refine f_lst ?_ | with_reducible refine f_call ?_ | with_reducible refine f_itA ?_ | with_reducible refine f_r1 ?_ | with_reducible refine r_seq ?_ | with_reducible refine n_add ?_ | with_reducible refine n_sub ?_ | with_reducible refine n_gt ?_ | with_reducible refine n_ge ?_ | with_reducible refine n_lt ?_ | with_reducible refine n_le ?_ | with_reducible refine e_var (by with_unfolding_all rfl) ?_ | with_reducible refine e_ixc (by with_unfolding_all rfl) ?_ | with_reducible refine e_callM (by with_unfolding_all rfl) ?_ | with_reducible refine s_frz (by with_unfolding_all rfl) ?_ | with_reducible refine s_app (by with_unfolding_all rfl) ?_ | with_reducible refine few_and (by first | decide | (simp only [List.length_cons, List.length_nil, Nat.reduceAdd, Nat.reduceLeDiff])) ?_ | refine Or.inl ⟨by first | with_reducible rfl | with_reducible exact Bool.not_false, ?_⟩ | refine Or.inr ⟨by first | with_reducible rfl | with_reducible exact Bool.not_true, ?_⟩ | refine Exists.intro _ (Exists.intro _ ⟨rfl, rfl, gd rfl ?_⟩) | refine Exists.intro _ ⟨rfl, ?_⟩))
local macro_rules | `(tactic| decreasing_trivial) => `(tactic| repeat decreasing_trivial_pre_omega)
abbrev Tb := List (List Int)
abbrev Pl := Nat × Nat
def rowD (r : List Int) : PyData := .tuple (r.map .int)
def tD (T : Tb) : PyData := .tuple (T.map rowD)
def plD (p : Pl) : PyData := .tuple [.int (p.1 : Nat), .int (p.2 : Nat)]
def hD (h : List Pl) : PyData := .tuple (h.map plD)
def lD (h : List Pl) : PyData := .list (h.map plD)
def cell (T : Tb) (p : Pl) : Int := (T.getD p.1 []).getD p.2 0
structure Box (T : Tb) (R C : Nat) : Prop where
  rows : T.length = R
  cols : ∀ r ∈ T, r.length = C
  few : (1 ≤ R ∧ R ≤ 6) ∧ 1 ≤ C ∧ C ≤ 6
  pos : ∀ r ∈ T, ∀ x ∈ r, 0 ≤ x ∧ x ≤ 10000000000
def In (R C : Nat) (p : Pl) : Prop := p.1 < R ∧ p.2 < C
theorem ix_nat {ds : List PyData} {d : PyData} {k : Nat} (h : ds[k]? = some d) : gIx (.tuple ds) (.int (k : Nat)) = some d := by
  show atI ds _ = _
  have hk := (List.getElem?_eq_some_iff.mp h).1
  unfold atI ixN
  rw [if_pos (by omega), if_pos (by omega)]
  show ds[((k : Int)).toNat]? = _
  rw [Int.toNat_natCast]
  exact h
theorem row_ix {T : Tb} {R C : Nat} (b : Box T R C) {p : Pl} (hp : In R C p) : ∃ r, gIx (tD T) (.int (p.1 : Nat)) = some (rowD r) ∧ gIx (rowD r) (.int (p.2 : Nat)) = some (.int (cell T p)) := by
  have h1 : p.1 < T.length := by rw [b.rows]; exact hp.1
  have h2 : p.2 < (T[p.1]).length := by rw [b.cols _ (List.getElem_mem h1)]; exact hp.2
  refine ⟨T[p.1], ix_nat (by rw [List.getElem?_map, List.getElem?_eq_getElem h1]; rfl), ix_nat ?_⟩
  rw [List.getElem?_map, List.getElem?_eq_getElem h2]
  unfold cell
  simp [List.getD_eq_getElem?_getD, List.getElem?_eq_getElem h1, List.getElem?_eq_getElem h2]
/-- the lines behind a line: rows 0, columns 1 -/
def behind (T : Tb) (oth : List Pl) (l : Pl) : List Pl := if l.1 = 0 then (oth.filter fun p => decide (p.1 = l.2)).map fun p => (1, p.2) else (oth.filter fun p => decide (p.2 = l.2) && decide (0 < cell T p)).map fun p => (0, p.1)
theorem eq_int (a b : Int) : gEq (.int a) (.int b) = some (.bool (a == b)) := rfl
theorem gt_int (a b : Int) : gGt (.int a) (.int b) = some (.bool (decide (b < a))) := rfl
theorem eq_nat (a b : Nat) : gEq (.int (a : Nat)) (.int (b : Nat)) = some (.bool (decide (a = b))) := by
  rw [eq_int]
  have : ((a : Int) == (b : Int)) = decide (a = b) := by
    by_cases h : a = b
    · subst h; simp
    · rw [decide_eq_false h, beq_eq_false_iff_ne]; omega
  rw [this]
theorem lines_ok {T : Tb} {R C : Nat} (b : Box T R C) {oth : List Pl} (ho : ∀ p ∈ oth, In R C p) (lo : oth.length ≤ 36) (l : Pl) : Gd (m__lines_behind [tD T, lD oth, plD l]) fun q => q = lD (behind T oth l) := by
  unfold m__lines_behind
  refine m_fnP rfl ?_
  unfold b__lines_behind
  refine s_seq ?_
  refine s_asg ?_
  decreasing_trivial
  refine gd rfl ?_
  refine s_seq ?_
  refine s_if ?_
  refine t_tst ?_
  refine e_op ?_
  refine e_var rfl ?_
  refine e_c ?_
  refine gd (eq_nat l.1 0) ?_
  refine ⟨_, rfl, ?_⟩
  by_cases c : l.1 = 0
  · refine .inl ⟨decide_eq_true c, ?_⟩
    refine s_ret ?_
    refine e_l ?_
    refine f_lcT_pure plD (fun p : Pl => decide (p.1 = l.2)) (fun p => plD (1, p.2)) ?_
    decreasing_trivial
    refine .inl ⟨_, .inl rfl, oth, rfl, rfl, Nat.lt_of_le_of_lt lo (by decide), fun p hp => ⟨_, rfl, rfl, rfl, ?_, fun _ => ?_⟩, ?_⟩
    · refine t_tst ?_
      refine e_op ?_
      refine e_var rfl ?_
      refine e_var rfl ?_
      exact gd (eq_nat p.1 l.2) ⟨_, rfl, rfl, rfl⟩
    · decreasing_trivial
      exact ⟨rfl, rfl⟩
    · unfold behind
      rw [if_pos c]
      show PyData.list _ = _
      unfold lD
      rw [List.map_map]
      rfl
  · refine .inr ⟨decide_eq_false c, s_nil ?_⟩
    refine s_ret ?_
    refine e_l ?_
    refine f_lcT_pure plD (fun p : Pl => decide (p.2 = l.2) && decide (0 < cell T p)) (fun p => plD (0, p.1)) ?_
    decreasing_trivial
    refine .inl ⟨_, .inl rfl, oth, rfl, rfl, Nat.lt_of_le_of_lt lo (by decide), fun p hp => ⟨_, rfl, rfl, rfl, ?_, fun _ => ?_⟩, ?_⟩
    · refine t_and ?_
      refine t_tst ?_
      refine e_op ?_
      refine e_var rfl ?_
      refine e_var rfl ?_
      refine gd (eq_nat p.2 l.2) ⟨_, rfl, ?_⟩
      by_cases c2 : p.2 = l.2
      · refine .inl ⟨decide_eq_true c2, ?_⟩
        obtain ⟨r, g1, g2⟩ := row_ix b (ho p hp)
        refine t_tst ?_
        refine e_op ?_
        refine e_op ?_
        refine e_op ?_
        refine e_var rfl ?_
        refine e_var rfl ?_
        refine gd g1 ?_
        refine e_var rfl ?_
        refine gd g2 ?_
        refine e_c ?_
        refine gd (gt_int _ _) ⟨_, rfl, ?_, rfl⟩
        rw [decide_eq_true c2, Bool.true_and]
      · refine .inr ⟨decide_eq_false c2, ?_, rfl⟩
        rw [decide_eq_false c2, Bool.false_and]
    · decreasing_trivial
      exact ⟨rfl, rfl⟩
    · unfold behind
      rw [if_neg c]
      show PyData.list _ = _
      unfold lD
      rw [List.map_map]
      rfl
end K70

/-! the lines that are come to -/
namespace K70
open PySem PySem.Spec PyProof.Rows L2 Dl
abbrev Cm := List (Pl × Option Pl)
def parD : Option Pl → PyData
  | none => .none
  | some l => plD l
def keyL (l : Pl) : List Key := [.inl (l.1 : Nat), .inl (l.2 : Nat)]
def dsC (cm : Cm) : List (List Key × PyData) := cm.map fun p => (keyL p.1, parD p.2)
def par (cm : Cm) (l : Pl) : Option (Option Pl) := (cm.find? fun p => decide (p.1 = l)).map (·.2)
def keys (cm : Cm) : List Pl := cm.map (·.1)
theorem keyL_inj {a b : Pl} : keyL a = keyL b ↔ a = b := by
  constructor
  · intro h
    unfold keyL at h
    injection h with h1 h2
    injection h2 with h2 _
    injection h1 with h1
    injection h2 with h2
    exact Prod.ext (by omega) (by omega)
  · intro h; rw [h]
theorem key_of_pl (l : Pl) : keyT (plD l) = some (keyL l) := rfl
theorem getL_dsC (l : Pl) : ∀ cm : Cm, getL (dsC cm) (keyL l) = (par cm l).map parD
  | [] => rfl
  | (a, p) :: r => by
    have ih := getL_dsC l r
    show getL ((keyL a, parD p) :: dsC r) (keyL l) = _
    rw [getL_cons, ih]
    unfold par
    rw [List.find?_cons]
    by_cases e : a = l
    · subst e
      simp
    · have : keyL a ≠ keyL l := fun z => e (keyL_inj.mp z)
      simp [e, this]
theorem par_none {cm : Cm} {l : Pl} : par cm l = none ↔ l ∉ keys cm := by
  unfold par keys
  rw [Option.map_eq_none_iff, List.find?_eq_none]
  constructor
  · intro h hm
    obtain ⟨p, hp, rfl⟩ := List.mem_map.mp hm
    exact h p hp (by simp)
  · intro h p hp
    simp only [decide_eq_true_eq]
    intro e
    exact h (List.mem_map.mpr ⟨p, hp, e⟩)
theorem par_some {cm : Cm} {l : Pl} : (par cm l).isSome = true ↔ l ∈ keys cm := by
  rw [← Option.ne_none_iff_isSome, Ne, par_none]
  exact Classical.not_not
theorem putL_new {cm : Cm} {l : Pl} {d : PyData} (h : l ∉ keys cm) : putL (dsC cm) (keyL l) d = dsC cm ++ [(keyL l, d)] := by
  unfold putL
  rw [if_neg]
  intro z
  rw [List.any_eq_true] at z
  obtain ⟨p, hp, e⟩ := z
  obtain ⟨q, hq, rfl⟩ := List.mem_map.mp hp
  have e := keyL_inj.mp (of_decide_eq_true e)
  exact h (List.mem_map.mpr ⟨q, hq, e⟩)
/-- as it grows -/
inductive Fo (T : Tb) (oth : List Pl) (bg : Pl) : Cm → Prop
  | one : Fo T oth bg [(bg, none)]
  | add {cm : Cm} {l p : Pl} (h : Fo T oth bg cm) (hp : p ∈ keys cm) (hl : l ∈ behind T oth p) (nl : l ∉ keys cm) : Fo T oth bg (cm ++ [(l, some p)])
theorem keys_app (a b : Cm) : keys (a ++ b) = keys a ++ keys b := List.map_append
theorem behind_in {T : Tb} {R C : Nat} {oth : List Pl} (ho : ∀ p ∈ oth, In R C p) {l b : Pl} (h : b ∈ behind T oth l) : (b.1 = 0 ∧ b.2 < R) ∨ (b.1 = 1 ∧ b.2 < C) := by
  unfold behind at h
  split at h
  · obtain ⟨p, hp, rfl⟩ := List.mem_map.mp h
    exact .inr ⟨rfl, (ho p (List.mem_filter.mp hp).1).2⟩
  · obtain ⟨p, hp, rfl⟩ := List.mem_map.mp h
    exact .inl ⟨rfl, (ho p (List.mem_filter.mp hp).1).1⟩
def Ln (R C : Nat) (l : Pl) : Prop := (l.1 = 0 ∧ l.2 < R) ∨ (l.1 = 1 ∧ l.2 < C)
theorem Fo.good {T : Tb} {R C : Nat} {oth : List Pl} {bg : Pl} (ho : ∀ p ∈ oth, In R C p) (hb : Ln R C bg) {cm : Cm} (h : Fo T oth bg cm) : (keys cm).Nodup ∧ ∀ l ∈ keys cm, Ln R C l := by
  induction h with
  | one => exact ⟨by simp [keys], fun l hl => by rw [show keys [(bg, none)] = [bg] from rfl, List.mem_singleton] at hl; rw [hl]; exact hb⟩
  | @add cm l p h hp hl nl ih =>
    rw [keys_app]
    refine ⟨List.nodup_append.mpr ⟨ih.1, by simp [keys], fun a ha b hb e => ?_⟩, fun x hx => ?_⟩
    · rw [show keys [(l, some p)] = [l] from rfl, List.mem_singleton] at hb
      subst e hb
      exact nl ha
    · rcases List.mem_append.mp hx with q | q
      · exact ih.2 x q
      · rw [show keys [(l, some p)] = [l] from rfl, List.mem_singleton] at q
        rw [q]
        exact behind_in ho hl
theorem nodup_len : ∀ (a b : List Pl), a.Nodup → (∀ x ∈ a, x ∈ b) → a.length ≤ b.length
  | [], b, _, _ => Nat.zero_le _
  | x :: r, b, nd, h => by
    have hx := h x List.mem_cons_self
    have nd' := List.nodup_cons.mp nd
    have ih := nodup_len r (b.erase x) nd'.2 fun y hy => (List.mem_erase_of_ne (fun e => nd'.1 (by rw [← e]; exact hy))).mpr (h y (List.mem_cons_of_mem _ hy))
    rw [List.length_erase_of_mem hx] at ih
    have := List.length_pos_of_mem hx
    rw [List.length_cons]
    omega
def univ : List Pl := [(0, 0), (0, 1), (0, 2), (0, 3), (0, 4), (0, 5), (1, 0), (1, 1), (1, 2), (1, 3), (1, 4), (1, 5)]
theorem in_univ {R C : Nat} (hR : R ≤ 6) (hC : C ≤ 6) {l : Pl} (h : Ln R C l) : l ∈ univ := by
  obtain ⟨a, b⟩ := l
  have hb : b < 6 := by rcases h with h | h <;> have := h.2 <;> simp at this <;> omega
  have ha : a = 0 ∨ a = 1 := by rcases h with h | h; exact .inl h.1; exact .inr h.1
  have : b = 0 ∨ b = 1 ∨ b = 2 ∨ b = 3 ∨ b = 4 ∨ b = 5 := by omega
  rcases ha with rfl | rfl <;> rcases this with rfl | rfl | rfl | rfl | rfl | rfl <;> decide
theorem Fo.few {T : Tb} {R C : Nat} {oth : List Pl} {bg : Pl} (hR : R ≤ 6) (hC : C ≤ 6) (ho : ∀ p ∈ oth, In R C p) (hb : Ln R C bg) {cm : Cm} (h : Fo T oth bg cm) : cm.length ≤ 12 := by
  have g := h.good ho hb
  have := nodup_len (keys cm) univ g.1 fun l hl => in_univ hR hC (g.2 l hl)
  rw [show (keys cm).length = cm.length from List.length_map ..] at this
  exact this
end K70

/-! the lines that are come to: the program's walk -/
namespace K70
open PySem PySem.Spec PyProof.Rows L2 Dl
theorem e_inO {neg : Bool} {fe : DE} {i : Nat} {s : Sl} {Q : PyData → Sl → Prop} (h : Ge (fe s) fun d s1 => ∃ c, dicAt s1 i = some c ∧ Gd (lookO c d) fun o => Q (.bool (if neg then o.isNone else o.isSome)) s1) : Ge (dInO neg fe i s) Q := by
  obtain ⟨d, s1, e1, c, e2, o, e3, q⟩ := h
  exact ⟨_, s1, by unfold dInO; rw [e1, Option.bind_some, e2, Option.bind_some, e3]; rfl, q⟩
theorem t_tru {fa : DE} {s : Sl} {QT : Bool → Sl → Prop} (h : Ge (fa s) fun d s1 => Gd (truD d) fun b => QT b s1) : Ge (dTru fa s) QT := by
  obtain ⟨d, s1, e1, b, e2, q⟩ := h
  exact ⟨b, s1, by unfold dTru; rw [e1, Option.bind_some, e2]; rfl, q⟩
def RS (T : Tb) (oth : List Pl) (bg : Pl) (cm : Cm) (v4 v5 v6 v7 : SV) : Sl := [.dat (tD T), .dat (lD oth), .dat (plD bg), .dic (.kT (dsC cm)), v4, v5, v6, v7]
def innerR : DS := (sFor (itA (dCall m__lines_behind (aCons (dVar 0) (aCons (dVar 1) (aCons (dVar 6) aNil))))) (tgN 7)
  (sIf (dTst (dInO true (dVar 7) 3))
  (sSeq (sPutD 3 (dVar 6) (dVar 7))
  (sApp 5 (dVar 7)))
  sNil))
theorem isNone_par {cm : Cm} {b : Pl} : ((par cm b).map parD).isNone = decide (b ∉ keys cm) := by
  by_cases h : b ∈ keys cm
  · have := par_some.mpr h
    rw [decide_eq_false (fun z => z h)]
    cases e : par cm b with
    | none => rw [e] at this; cases this
    | some o => rfl
  · rw [decide_eq_true h, par_none.mpr h]
    rfl
theorem inner_ok {T : Tb} {R C : Nat} (bx : Box T R C) {oth : List Pl} (ho : ∀ p ∈ oth, In R C p) (lo : oth.length ≤ 36) {bg : Pl} (hb : Ln R C bg) {cm : Cm} (fo : Fo T oth bg cm) {line : Pl} (hl : line ∈ keys cm) {found : List Pl} (lf : found.length ≤ 12) {v4 v7 : SV} {N : Sl → Prop} {Q : PyData → Sl → Prop}
    (k : ∀ (cm' : Cm) (extra : List Pl) (v7 : SV), Fo T oth bg cm' → keys cm' = keys cm ++ extra → (∀ b ∈ behind T oth line, b ∈ keys cm') → N (RS T oth bg cm' v4 (.own ((found ++ extra).map plD)) (.dat (plD line)) v7)) :
    Gs (innerR (RS T oth bg cm v4 (.own (found.map plD)) (.dat (plD line)) v7)) N Q := by
  unfold innerR
  refine s_for (I := fun r s => ∃ (extra : List Pl) (cm' : Cm) (v7 : SV) (done rs : List Pl), s = RS T oth bg cm' v4 (.own ((found ++ extra).map plD)) (.dat (plD line)) v7 ∧ Fo T oth bg cm' ∧ keys cm' = keys cm ++ extra ∧ behind T oth line = done ++ rs ∧ r = rs.map plD ∧ ∀ b ∈ done, b ∈ keys cm') ?_ (fun d r s hI => ?_) (fun s hI => ?_)
  · refine f_itA ?_
    refine e_call ?_
    refine a_cons ?_
    refine e_var rfl ?_
    refine a_cons ?_
    refine e_var rfl ?_
    refine a_cons ?_
    refine e_var rfl ?_
    refine a_nil ?_
    refine gd_mono (lines_ok bx ho lo line) fun q hq => ?_
    subst hq
    exact .inl ⟨_, .inl rfl, [], cm, v7, [], behind T oth line, by rw [List.append_nil], fo, by rw [List.append_nil], rfl, rfl, fun b hb => by cases hb⟩
  · obtain ⟨extra, cm', w7, done, rs, rfl, fo', hk, hd, hr, hin⟩ := hI
    cases rs with
    | nil => cases hr
    | cons b rs =>
      rw [List.map_cons] at hr
      injection hr with hr1 hr2
      subst hr1 hr2
      have hbm : b ∈ behind T oth line := by rw [hd]; simp
      refine ⟨RS T oth bg cm' v4 (.own ((found ++ extra).map plD)) (.dat (plD line)) (.dat (plD b)), rfl, ?_⟩
      refine s_if ?_
      refine t_tst ?_
      refine e_inO ?_
      refine e_var rfl ?_
      refine ⟨.kT (dsC cm'), rfl, ?_⟩
      have lk : lookO (.kT (dsC cm')) (plD b) = some ((par cm' b).map parD) := by
        show (keyT (plD b)).map _ = _
        rw [key_of_pl, Option.map_some, getL_dsC]
      refine gd lk ⟨_, rfl, ?_⟩
      show ((((par cm' b).map parD).isNone) = true ∧ _) ∨ ((((par cm' b).map parD).isNone) = false ∧ _)
      rw [isNone_par]
      by_cases nb : b ∈ keys cm'
      · refine .inr ⟨decide_eq_false (fun z => z nb), s_nil ?_⟩
        refine ⟨extra, cm', _, done ++ [b], rs, rfl, fo', hk, by rw [hd]; simp, rfl, fun x hx => ?_⟩
        rcases List.mem_append.mp hx with q | q
        · exact hin x q
        · rw [List.mem_singleton.mp q]; exact nb
      · refine .inl ⟨decide_eq_true nb, ?_⟩
        have fo2 : Fo T oth bg (cm' ++ [(b, some line)]) := .add fo' (by rw [hk]; exact List.mem_append_left _ hl) hbm nb
        have few := fo2.few bx.few.1.2 bx.few.2.2 ho hb
        have le : extra.length ≤ 12 := by
          have e1 : (keys (cm' ++ [(b, some line)])).length ≤ 12 := by rw [show (keys (cm' ++ [(b, some line)])).length = (cm' ++ [(b, some line)]).length from List.length_map ..]; exact few
          rw [keys_app, hk] at e1
          simp only [List.length_append] at e1
          omega
        refine s_seq ?_
        refine s_putD ?_
        refine e_var rfl ?_
        refine ⟨.kT (dsC cm'), rfl, ?_⟩
        refine e_var rfl ?_
        refine ⟨.kT (dsC cm'), rfl, ?_⟩
        have pc : putC (.kT (dsC cm')) (plD b) (plD line) = some (.kT (dsC (cm' ++ [(b, some line)]))) := by
          have fl : (dsC cm').length < sizeLine := by
            rw [List.length_append] at few
            rw [show (dsC cm').length = cm'.length from List.length_map ..]
            exact Nat.lt_of_le_of_lt (show cm'.length ≤ 12 by omega) (by decide)
          show (if (dsC cm').length < sizeLine then _ else _) = _
          rw [if_pos fl, key_of_pl, Option.map_some, putL_new nb]
          unfold dsC
          rw [List.map_append]
          rfl
        refine gd pc ?_
        refine s_app (p0 := (found ++ extra).map plD) rfl ?_
        refine e_var (d := plD b) rfl ?_
        refine ⟨(found ++ extra).map plD, rfl, ?_, extra ++ [b], cm' ++ [(b, some line)], .dat (plD b), done ++ [b], rs, ?_, fo2, ?_, by rw [hd]; simp, rfl, fun x hx => ?_⟩
        · rw [List.length_map, List.length_append]
          exact Nat.lt_of_le_of_lt (show found.length + extra.length ≤ 24 by omega) (by decide)
        · have e : (found ++ (extra ++ [b])).map plD = (found ++ extra).map plD ++ [plD b] := by simp
          rw [e]
          rfl
        · rw [keys_app, hk, List.append_assoc]
          rfl
        · rw [keys_app]
          rcases List.mem_append.mp hx with q | q
          · exact List.mem_append_left _ (hin x q)
          · rw [List.mem_singleton.mp q]
            exact List.mem_append_right _ (by simp [keys])
  · obtain ⟨extra, cm', w7, done, rs, rfl, fo', hk, hd, hr, hin⟩ := hI
    cases rs with
    | nil => exact k cm' extra w7 fo' hk fun b hb => hin b (by rw [hd, List.append_nil] at hb; exact hb)
    | cons b rs => cases hr
end K70

/-! the walk, whole -/
namespace K70
open PySem PySem.Spec PyProof.Rows L2 Dl
theorem outer_ok {T : Tb} {R C : Nat} (bx : Box T R C) {oth : List Pl} (ho : ∀ p ∈ oth, In R C p) (lo : oth.length ≤ 36) {bg : Pl} (hb : Ln R C bg) {cm : Cm} (fo : Fo T oth bg cm) {layer : List Pl} (hl : ∀ l ∈ layer, l ∈ keys cm) {v6 v7 : SV} {N : Sl → Prop} {Q : PyData → Sl → Prop}
    (k : ∀ (cm' : Cm) (found : List Pl) (v6 v7 : SV), Fo T oth bg cm' → keys cm' = keys cm ++ found → (∀ l ∈ layer, ∀ b ∈ behind T oth l, b ∈ keys cm') → N (RS T oth bg cm' (.dat (lD layer)) (.own (found.map plD)) v6 v7)) :
    Gs (sFor (itA (dVar 4)) (tgN 6) innerR (RS T oth bg cm (.dat (lD layer)) (.own []) v6 v7)) N Q := by
  refine s_for (I := fun r s => ∃ (found : List Pl) (cm' : Cm) (v6 v7 : SV) (done rs : List Pl), s = RS T oth bg cm' (.dat (lD layer)) (.own (found.map plD)) v6 v7 ∧ Fo T oth bg cm' ∧ keys cm' = keys cm ++ found ∧ layer = done ++ rs ∧ r = rs.map plD ∧ ∀ l ∈ done, ∀ b ∈ behind T oth l, b ∈ keys cm') ?_ (fun d r s hI => ?_) (fun s hI => ?_)
  · refine f_itA ?_
    refine e_var (d := lD layer) rfl ?_
    exact .inl ⟨_, .inl rfl, [], cm, v6, v7, [], layer, rfl, fo, by rw [List.append_nil], rfl, rfl, fun l h => by cases h⟩
  · obtain ⟨found, cm', w6, w7, done, rs, rfl, fo', hk, hd, hr, hin⟩ := hI
    cases rs with
    | nil => cases hr
    | cons l rs =>
      rw [List.map_cons] at hr
      injection hr with hr1 hr2
      subst hr1 hr2
      refine ⟨RS T oth bg cm' (.dat (lD layer)) (.own (found.map plD)) (.dat (plD l)) w7, rfl, ?_⟩
      have hlk : l ∈ keys cm' := by rw [hk]; exact List.mem_append_left _ (hl l (by rw [hd]; simp))
      have lf : found.length ≤ 12 := by
        have few := fo'.few bx.few.1.2 bx.few.2.2 ho hb
        have e1 : (keys cm').length ≤ 12 := by rw [show (keys cm').length = cm'.length from List.length_map ..]; exact few
        rw [hk, List.length_append] at e1
        omega
      refine inner_ok bx ho lo hb fo' hlk lf fun cm2 extra v7 fo2 hk2 hin2 => ?_
      refine ⟨found ++ extra, cm2, _, v7, done ++ [l], rs, rfl, fo2, by rw [hk2, hk, List.append_assoc], by rw [hd]; simp, rfl, fun x hx b hb => ?_⟩
      rcases List.mem_append.mp hx with q | q
      · rw [hk2]; exact List.mem_append_left _ (hin x q b hb)
      · rw [List.mem_singleton.mp q] at hb
        exact hin2 b hb
  · obtain ⟨found, cm', w6, w7, done, rs, rfl, fo', hk, hd, hr, hin⟩ := hI
    cases rs with
    | nil => exact k cm' found w6 w7 fo' hk fun l hl => hin l (by rw [hd, List.append_nil] at hl; exact hl)
    | cons b rs => cases hr
def cameD (cm : Cm) : PyData := .dict ((.none, .none) :: kvD (dsC cm))
structure Reach (T : Tb) (oth : List Pl) (bg : Pl) (cm : Cm) : Prop where
  fo : Fo T oth bg cm
  closed : ∀ l ∈ keys cm, ∀ b ∈ behind T oth l, b ∈ keys cm
theorem reached_ok {T : Tb} {R C : Nat} (bx : Box T R C) {oth : List Pl} (ho : ∀ p ∈ oth, In R C p) (lo : oth.length ≤ 36) {bg : Pl} (hb : Ln R C bg) : Gd (m__reached [tD T, lD oth, plD bg]) fun q => ∃ cm, q = cameD cm ∧ Reach T oth bg cm := by
  unfold m__reached
  refine m_fnP rfl ?_
  unfold b__reached
  refine s_seq ?_
  refine s_dispD (prs := [(plD bg, .none)]) (ps := dsC [(bg, none)]) rfl rfl (Nat.le_of_ble_eq_true rfl) (by simp [dsC]) (by show 3 < 8; decide) ?_
  show Gs (sSeq _ _ (RS T oth bg [(bg, none)] .no .no .no .no)) _ _
  refine s_seq ?_
  refine s_set ?_
  refine e_l ?_
  refine f_lst ?_
  refine a_cons ?_
  refine e_var rfl ?_
  refine a_nil ?_
  refine ⟨Nat.le_of_ble_eq_true rfl, ?_⟩
  show Gs (sSeq _ _ (RS T oth bg [(bg, none)] (.dat (lD [bg])) .no .no .no)) _ _
  refine s_seq ?_
  refine s_while (I := fun m s => ∃ (cm : Cm) (layer : List Pl) (v5 v6 v7 : SV), s = RS T oth bg cm (.dat (lD layer)) v5 v6 v7 ∧ Fo T oth bg cm ∧ (∀ l ∈ layer, l ∈ keys cm) ∧ (∀ l ∈ keys cm, l ∉ layer → ∀ b ∈ behind T oth l, b ∈ keys cm) ∧ m = 2 * (13 - cm.length) + min 1 layer.length) ?_ (fun m s hI => ?_)
  · exact ⟨2 * (13 - 1) + min 1 1, by decide, [(bg, none)], [bg], .no, .no, .no, rfl, .one, fun l hl => hl, fun l h1 h2 => absurd h1 h2, rfl⟩
  · obtain ⟨cm, layer, v5, v6, v7, rfl, fo, hl, cl, rfl⟩ := hI
    refine t_tru ?_
    refine e_var (d := lD layer) rfl ?_
    refine gd (a := !(layer.map plD).isEmpty) rfl ?_
    cases layer with
    | nil =>
      refine .inr ⟨rfl, ?_⟩
      refine s_seq ?_
      refine s_frzD (c := .kT (dsC cm)) rfl ?_
      refine s_ret ?_
      refine e_var (d := cameD cm) rfl ?_
      exact ⟨cm, rfl, fo, fun l h => cl l h (by simp)⟩
    | cons l0 ls =>
      refine .inl ⟨rfl, ?_⟩
      refine s_seq ?_
      refine s_own ?_
      refine f_lst ?_
      refine a_nil ?_
      refine ⟨by decide, by show 5 < 8; decide, ?_⟩
      show Gs (sSeq _ _ (RS T oth bg cm (.dat (lD (l0 :: ls))) (.own []) v6 v7)) _ _
      refine s_seq ?_
      refine outer_ok bx ho lo hb fo hl fun cm' found w6 w7 fo' hk hin => ?_
      refine s_seq ?_
      refine s_frz rfl ?_
      refine s_set ?_
      refine e_var (d := lD found) rfl ?_
      have few := fo'.few bx.few.1.2 bx.few.2.2 ho hb
      have e1 : cm'.length = cm.length + found.length := by
        have := congrArg List.length hk
        rw [List.length_append, show (keys cm').length = cm'.length from List.length_map .., show (keys cm).length = cm.length from List.length_map ..] at this
        exact this
      refine ⟨2 * (13 - cm'.length) + min 1 found.length, ?_, cm', found, _, w6, w7, rfl, fo', fun l h => by rw [hk]; exact List.mem_append_right _ h, fun l h1 h2 => ?_, rfl⟩
      · rw [List.length_cons]
        omega
      · rw [hk] at h1
        rcases List.mem_append.mp h1 with q | q
        · by_cases hm : l ∈ l0 :: ls
          · exact hin l hm
          · intro b hb
            rw [hk]
            exact List.mem_append_left _ (cl l q hm b hb)
        · exact absurd q h2
end K70

/-! the way back -/
namespace K70
open PySem PySem.Spec PyProof.Rows L2 Dl
inductive Way (cm : Cm) : Pl → List (Pl × Pl) → Prop
  | stop {l : Pl} (h : par cm l = some none) : Way cm l []
  | step {l p : Pl} {w : List (Pl × Pl)} (h : par cm l = some (some p)) (k : Way cm p w) : Way cm l ((l, p) :: w)
theorem par_app {cm : Cm} {l a : Pl} {o : Option Pl} : par (cm ++ [(a, o)]) l = if l ∈ keys cm then par cm l else if a = l then some o else none := by
  unfold par
  rw [List.find?_append]
  by_cases h : l ∈ keys cm
  · rw [if_pos h]
    have := par_some.mpr h
    unfold par at this
    cases e : cm.find? fun p => decide (p.1 = l) with
    | none => rw [e] at this; cases this
    | some p => rfl
  · rw [if_neg h]
    have := par_none.mpr h
    unfold par at this
    rw [Option.map_eq_none_iff] at this
    rw [this]
    by_cases e : a = l
    · simp [e]
    · simp [e]
theorem Way.up {cm : Cm} {a : Pl} {o : Option Pl} {l : Pl} {w : List (Pl × Pl)} (h : Way cm l w) : Way (cm ++ [(a, o)]) l w := by
  induction h with
  | stop h => exact .stop (by rw [par_app, if_pos (par_some.mp (by rw [h]; rfl))]; exact h)
  | step h k ih => exact .step (by rw [par_app, if_pos (par_some.mp (by rw [h]; rfl))]; exact h) ih
theorem Way.keys_ {cm : Cm} {l : Pl} {w : List (Pl × Pl)} (h : Way cm l w) : ∀ q ∈ w, q.1 ∈ keys cm := by
  induction h with
  | stop h => intro q hq; cases hq
  | step h k ih =>
    intro q hq
    rcases List.mem_cons.mp hq with rfl | z
    · exact par_some.mp (by rw [h]; rfl)
    · exact ih q z
/-- the way from a line that was come to -/
structure Wy (T : Tb) (oth : List Pl) (bg : Pl) (cm : Cm) (l : Pl) (w : List (Pl × Pl)) : Prop where
  way : Way cm l w
  few : w.length ≤ cm.length
  nd : (w.map (·.1)).Nodup
  ok : ∀ q ∈ w, q.1 ∈ behind T oth q.2
  nb : ∀ q ∈ w, q.1 ≠ bg
theorem Fo.bg_in {T : Tb} {oth : List Pl} {bg : Pl} {cm : Cm} (h : Fo T oth bg cm) : bg ∈ keys cm := by
  induction h with
  | one => simp [keys]
  | add h hp hl nl ih => rw [keys_app]; exact List.mem_append_left _ ih
theorem Fo.wy {T : Tb} {oth : List Pl} {bg : Pl} {cm : Cm} (h : Fo T oth bg cm) : ∀ l ∈ keys cm, ∃ w, Wy T oth bg cm l w := by
  induction h with
  | one =>
    intro l hl
    rw [show keys [(bg, none)] = [bg] from rfl, List.mem_singleton] at hl
    subst hl
    exact ⟨[], ⟨.stop (by simp [par]), Nat.zero_le _, by simp, fun q hq => (by cases hq), fun q hq => (by cases hq)⟩⟩
  | @add cm a p h hp hl nl ih =>
    intro l hlk
    rw [keys_app] at hlk
    rcases List.mem_append.mp hlk with q | q
    · obtain ⟨w, k⟩ := ih l q
      exact ⟨w, k.way.up, by rw [List.length_append]; exact Nat.le_trans k.few (Nat.le_add_right _ _), k.nd, k.ok, k.nb⟩
    · rw [show keys [(a, some p)] = [a] from rfl, List.mem_singleton] at q
      subst q
      obtain ⟨w, k⟩ := ih p hp
      refine ⟨(l, p) :: w, .step (by rw [par_app, if_neg nl, if_pos rfl]) k.way.up, ?_, ?_, fun x hx => ?_, fun x hx => ?_⟩
      · rw [List.length_cons, List.length_append]
        exact Nat.succ_le_succ k.few
      · rw [List.map_cons, List.nodup_cons]
        refine ⟨fun z => ?_, k.nd⟩
        obtain ⟨y, hy, e⟩ := List.mem_map.mp z
        exact nl (by have e' : y.1 = l := e; rw [← e']; exact k.way.keys_ y hy)
      · rcases List.mem_cons.mp hx with rfl | z
        · exact hl
        · exact k.ok x z
      · rcases List.mem_cons.mp hx with rfl | z
        · exact fun e => nl (by have e' : l = bg := e; rw [e']; exact h.bg_in)
        · exact k.nb x z
def stepOf (q : Pl × Pl) : Pl × Int := if q.2.1 = 0 then ((q.2.2, q.1.2), 1) else ((q.1.2, q.2.2), -1)
def stD (q : Pl × Int) : PyData := .tuple [plD q.1, .int q.2]
theorem look_came (cm : Cm) (l : Pl) : lookD (cameD cm) (plD l) = some ((par cm l).map parD) := by
  unfold cameD
  rw [lookD_t (key_of_pl l), getL_dsC]
theorem get_came {cm : Cm} {l : Pl} {o : Option Pl} (h : par cm l = some o) : gGetD (cameD cm) (plD l) = some (parD o) := by
  unfold gGetD
  rw [look_came, h]
  rfl
theorem pl_0 (l : Pl) : gIx (plD l) (.int 0) = some (.int (l.1 : Nat)) := ix_nat (k := 0) rfl
theorem pl_1 (l : Pl) : gIx (plD l) (.int 1) = some (.int (l.2 : Nat)) := ix_nat (k := 1) rfl
theorem places_ok {cm : Cm} {goal place : Pl} {turn : Int} {w : List (Pl × Pl)} (h : Way cm goal w) (few : w.length ≤ 20) : Gd (m__places_round [plD place, .int turn, cameD cm, plD goal]) fun q => q = .list (((place, turn) :: w.map stepOf).map stD) := by
  unfold m__places_round
  refine m_fnP rfl ?_
  unfold b__places_round
  refine s_seq ?_
  refine s_own ?_
  refine f_lst ?_
  refine a_cons ?_
  refine e_tup ?_
  refine a_cons ?_
  refine e_var rfl ?_
  refine a_cons ?_
  refine e_var rfl ?_
  refine a_nil ?_
  refine ⟨Nat.le_of_ble_eq_true rfl, ?_⟩
  refine a_nil ?_
  refine ⟨Nat.le_of_ble_eq_true rfl, by show 4 < 7; decide, ?_⟩
  refine s_seq ?_
  refine s_set ?_
  refine e_var rfl ?_
  refine s_seq ?_
  refine s_while (I := fun m s => ∃ (l : Pl) (v : List (Pl × Pl)) (acc : List (Pl × Int)) (v6 : SV), s = [.dat (plD place), .dat (.int turn), .dat (cameD cm), .dat (plD goal), .own (acc.map stD), .dat (plD l), v6] ∧ Way cm l v ∧ acc ++ v.map stepOf = (place, turn) :: w.map stepOf ∧ m = v.length ∧ v.length ≤ 20 ∧ acc.length + v.length ≤ 21) ?_ (fun m s hI => ?_)
  · exact ⟨w.length, Nat.lt_of_le_of_lt few (by decide), goal, w, [(place, turn)], .no, rfl, h, rfl, rfl, few, by simp; omega⟩
  · obtain ⟨l, v, acc, v6, rfl, hw, ha, rfl, lv, la⟩ := hI
    refine t_tst ?_
    refine e_op ?_
    refine e_op ?_
    refine e_var rfl ?_
    refine e_var rfl ?_
    cases hw with
    | stop hp =>
      refine gd (get_came hp) ?_
      refine e_c ?_
      refine gd (a := .bool false) rfl ⟨_, rfl, .inr ⟨rfl, ?_⟩⟩
      refine s_seq ?_
      refine s_frz (ds := acc.map stD) rfl ?_
      refine s_ret ?_
      refine e_var (d := .list (acc.map stD)) rfl ?_
      rw [← ha]
      simp
    | @step _ p v' hp k =>
      refine gd (get_came hp) ?_
      refine e_c ?_
      refine gd (a := .bool true) rfl ⟨_, rfl, .inl ⟨rfl, ?_⟩⟩
      refine s_seq ?_
      refine s_set ?_
      refine e_op ?_
      refine e_var rfl ?_
      refine e_var rfl ?_
      refine gd (get_came hp) ?_
      have la' : (acc.map stD).length < sizeLine := by
        rw [List.length_map]
        exact Nat.lt_of_le_of_lt (show acc.length ≤ 21 by omega) (by decide)
      have fin : ∀ {s : Sl}, s = [.dat (plD place), .dat (.int turn), .dat (cameD cm), .dat (plD goal), .own ((acc ++ [stepOf (l, p)]).map stD), .dat (plD l), .dat (plD p)] → Gs (sSet 5 (dVar 6) s) (fun s2 => ∃ m', m' < ((l, p) :: v').length ∧ ∃ (l : Pl) (v : List (Pl × Pl)) (acc : List (Pl × Int)) (v6 : SV), s2 = [.dat (plD place), .dat (.int turn), .dat (cameD cm), .dat (plD goal), .own (acc.map stD), .dat (plD l), v6] ∧ Way cm l v ∧ acc ++ v.map stepOf = (place, turn) :: w.map stepOf ∧ m' = v.length ∧ v.length ≤ 20 ∧ acc.length + v.length ≤ 21) (fun d s => d = .list (((place, turn) :: w.map stepOf).map stD)) := fun {s} hs => by
        subst hs
        refine s_set ?_
        refine e_var (d := plD p) rfl ?_
        rw [List.length_cons] at lv la
        refine ⟨v'.length, Nat.lt_succ_self _, p, v', acc ++ [stepOf (l, p)], .dat (plD p), rfl, k, by rw [← ha]; simp, rfl, by omega, by rw [List.length_append, List.length_singleton]; omega⟩
      refine s_seq ?_
      refine s_if ?_
      refine t_tst ?_
      refine e_op ?_
      refine e_op ?_
      refine e_var (d := plD p) rfl ?_
      refine e_c ?_
      refine gd (pl_0 p) ?_
      refine e_c ?_
      refine gd (eq_nat p.1 0) ⟨_, rfl, ?_⟩
      by_cases c : p.1 = 0
      · refine .inl ⟨decide_eq_true c, ?_⟩
        refine s_app (p0 := acc.map stD) rfl ?_
        refine e_tup ?_
        refine a_cons ?_
        refine e_tup ?_
        refine a_cons ?_
        refine e_op ?_
        refine e_var (d := plD p) rfl ?_
        refine e_c ?_
        refine gd (pl_1 p) ?_
        refine a_cons ?_
        refine e_op ?_
        refine e_var (d := plD l) rfl ?_
        refine e_c ?_
        refine gd (pl_1 l) ?_
        refine a_nil ?_
        refine ⟨Nat.le_of_ble_eq_true rfl, ?_⟩
        refine a_cons ?_
        refine e_c ?_
        refine a_nil ?_
        refine ⟨Nat.le_of_ble_eq_true rfl, acc.map stD, rfl, la', ?_⟩
        refine fin ?_
        have e : stD (stepOf (l, p)) = .tuple [.tuple [.int (p.2 : Nat), .int (l.2 : Nat)], .int 1] := by
          unfold stepOf
          rw [if_pos c]
          rfl
        rw [List.map_append, List.map_singleton, e]
        rfl
      · refine .inr ⟨decide_eq_false c, ?_⟩
        refine s_app (p0 := acc.map stD) rfl ?_
        refine e_tup ?_
        refine a_cons ?_
        refine e_tup ?_
        refine a_cons ?_
        refine e_op ?_
        refine e_var (d := plD l) rfl ?_
        refine e_c ?_
        refine gd (pl_1 l) ?_
        refine a_cons ?_
        refine e_op ?_
        refine e_var (d := plD p) rfl ?_
        refine e_c ?_
        refine gd (pl_1 p) ?_
        refine a_nil ?_
        refine ⟨Nat.le_of_ble_eq_true rfl, ?_⟩
        refine a_cons ?_
        refine e_un ?_
        refine e_c ?_
        refine gd (a := .int (-1)) rfl ?_
        refine a_nil ?_
        refine ⟨Nat.le_of_ble_eq_true rfl, acc.map stD, rfl, la', ?_⟩
        refine fin ?_
        have e : stD (stepOf (l, p)) = .tuple [.tuple [.int (l.2 : Nat), .int (p.2 : Nat)], .int (-1)] := by
          unfold stepOf
          rw [if_neg c]
          rfl
        rw [List.map_append, List.map_singleton, e]
        rfl
end K70

/-! how many can go round -/
namespace K70
open PySem PySem.Spec PyProof.Rows L2 Dl
theorem step_in {T : Tb} {oth : List Pl} {q : Pl × Pl} (h : q.1 ∈ behind T oth q.2) : (stepOf q).1 ∈ oth ∧ ((stepOf q).2 = 1 ∨ ((stepOf q).2 = -1 ∧ 0 < cell T (stepOf q).1)) := by
  obtain ⟨l, p⟩ := q
  unfold behind at h
  unfold stepOf
  dsimp only at h ⊢
  split at h
  · rename_i c
    rw [if_pos c]
    obtain ⟨x, hx, rfl⟩ := List.mem_map.mp h
    obtain ⟨h1, h2⟩ := List.mem_filter.mp hx
    have h2 : x.1 = p.2 := of_decide_eq_true h2
    exact ⟨by rw [← h2]; exact h1, .inl rfl⟩
  · rename_i c
    rw [if_neg c]
    obtain ⟨x, hx, rfl⟩ := List.mem_map.mp h
    obtain ⟨h1, h2⟩ := List.mem_filter.mp hx
    rw [Bool.and_eq_true] at h2
    have h3 : x.2 = p.2 := of_decide_eq_true h2.1
    have h4 := of_decide_eq_true h2.2
    refine ⟨?_, .inr ⟨rfl, ?_⟩⟩
    · show (x.1, p.2) ∈ oth
      rw [← h3]; exact h1
    · show 0 < cell T (x.1, p.2)
      rw [← h3]; exact h4
theorem ints_of_map (ns : List Int) : intsD (ns.map .int) = some ns := by
  induction ns with
  | nil => rfl
  | cons n r ih => show (intsD (r.map .int)).map (n :: ·) = _; rw [ih]; rfl
/-- the places that lose -/
def lose (ps : List (Pl × Int)) : List Pl := (ps.filter fun q => decide (q.2 < 0)).map (·.1)
def roundOf (place : Pl) (turn : Int) (w : List (Pl × Pl)) : List (Pl × Int) := (place, turn) :: w.map stepOf
theorem lt_0 (i : Int) : gLt (.int i) (.int 0) = some (.bool (decide (i < 0))) := rfl
theorem most_no {T : PyData} {place goal : Pl} {turn : Int} {cm : Cm} (h : goal ∉ keys cm) : Gd (m__most_round [T, plD place, .int turn, cameD cm, plD goal]) fun q => q = .int 0 := by
  unfold m__most_round
  refine m_fnP rfl ?_
  unfold b__most_round
  refine s_seq ?_
  refine s_if ?_
  refine t_tst ?_
  refine e_op ?_
  refine e_var rfl ?_
  refine e_var rfl ?_
  have g : gInD true (plD goal) (cameD cm) = some (.bool true) := by
    unfold gInD
    rw [look_came, par_none.mpr h]
    rfl
  refine gd g ⟨_, rfl, .inl ⟨rfl, ?_⟩⟩
  refine s_ret ?_
  refine e_c ?_
  rfl
theorem most_ok {T : Tb} {R C : Nat} (bx : Box T R C) {place goal : Pl} {turn : Int} {cm : Cm} {w : List (Pl × Pl)} (hw : Way cm goal w) (few : w.length ≤ 20) (hin : ∀ q ∈ roundOf place turn w, In R C q.1) (ne : lose (roundOf place turn w) ≠ []) :
    Gd (m__most_round [tD T, plD place, .int turn, cameD cm, plD goal]) fun q => ∃ m : Int, q = .int m ∧ (∀ p ∈ lose (roundOf place turn w), m ≤ cell T p) ∧ ∃ p ∈ lose (roundOf place turn w), m = cell T p := by
  unfold m__most_round
  refine m_fnP rfl ?_
  unfold b__most_round
  refine s_seq ?_
  refine s_if ?_
  refine t_tst ?_
  refine e_op ?_
  refine e_var rfl ?_
  refine e_var rfl ?_
  have hk : ∃ o, par cm goal = some o := by cases hw with
    | stop h => exact ⟨_, h⟩
    | step h k => exact ⟨_, h⟩
  obtain ⟨o, ho⟩ := hk
  have g : gInD true (plD goal) (cameD cm) = some (.bool false) := by
    unfold gInD
    rw [look_came, ho]
    rfl
  refine gd g ⟨_, rfl, .inr ⟨rfl, s_nil ?_⟩⟩
  refine s_ret ?_
  refine e_b ?_
  refine a_cons ?_
  refine e_l ?_
  refine f_lcT_pure stD (fun q : Pl × Int => decide (q.2 < 0)) (fun q => .int (cell T q.1)) ?_
  refine f_itA ?_
  refine e_call ?_
  refine a_cons ?_
  refine e_var rfl ?_
  refine a_cons ?_
  refine e_var rfl ?_
  refine a_cons ?_
  refine e_var rfl ?_
  refine a_cons ?_
  refine e_var rfl ?_
  refine a_nil ?_
  refine gd_mono (places_ok hw few) fun q hq => ?_
  subst hq
  refine .inl ⟨_, .inl rfl, roundOf place turn w, rfl, rfl, ?_, fun q hq => ⟨_, rfl, rfl, rfl, ?_, fun _ => ?_⟩, ?_⟩
  · unfold roundOf
    rw [List.length_cons, List.length_map]
    exact Nat.lt_of_le_of_lt (show w.length + 1 ≤ 21 by omega) (by decide)
  · refine t_tst ?_
    refine e_op ?_
    refine e_var rfl ?_
    refine e_c ?_
    exact gd (lt_0 q.2) ⟨_, rfl, rfl, rfl⟩
  · obtain ⟨r, g1, g2⟩ := row_ix bx (hin q hq)
    refine e_op ?_
    refine e_op ?_
    refine e_var rfl ?_
    refine e_var rfl ?_
    refine gd g1 ?_
    refine e_var rfl ?_
    exact gd g2 ⟨rfl, rfl⟩
  · refine a_nil ?_
    have e : ((roundOf place turn w).filter fun q : Pl × Int => decide (q.2 < 0)).map (fun q => PyData.int (cell T q.1)) = ((lose (roundOf place turn w)).map (cell T)).map .int := by
      unfold lose
      rw [List.map_map, List.map_map]
      rfl
    rw [e]
    cases hl : lose (roundOf place turn w) with
    | nil => exact absurd hl ne
    | cons a r =>
      refine gd (a := .int (least (r.map (cell T)) (cell T a))) ?_ ⟨_, rfl, ?_, ?_⟩
      · show (intsD _).bind _ = _
        rw [ints_of_map]
        rfl
      · obtain ⟨h1, h2⟩ := least_le (r.map (cell T)) (cell T a)
        intro p hp
        rcases List.mem_cons.mp hp with rfl | z
        · exact h1
        · exact h2 _ (List.mem_map_of_mem z)
      · rcases least_mem (r.map (cell T)) (cell T a) with h | h
        · exact ⟨a, List.mem_cons_self, h⟩
        · obtain ⟨p, hp, e⟩ := List.mem_map.mp h
          exact ⟨p, List.mem_cons_of_mem _ hp, e.symm⟩
end K70

/-! the table turned -/
namespace K70
open PySem PySem.Spec PyProof.Rows L2 Dl
theorem fold_put {α : Type} (Kf : α → List Key) (Vf : α → PyData) : ∀ (as : List α) (acc : List (List Key × PyData)), (as.map Kf).Nodup → (∀ a ∈ as, ∀ p ∈ acc, p.1 ≠ Kf a) → as.foldl (fun acc a => putL acc (Kf a) (Vf a)) acc = acc ++ as.map fun a => (Kf a, Vf a)
  | [], acc, _, _ => by simp
  | a :: r, acc, nd, h => by
    rw [List.map_cons, List.nodup_cons] at nd
    have e : putL acc (Kf a) (Vf a) = acc ++ [(Kf a, Vf a)] := by
      unfold putL
      rw [if_neg]
      intro z
      rw [List.any_eq_true] at z
      obtain ⟨p, hp, e⟩ := z
      exact h a List.mem_cons_self p hp (of_decide_eq_true e)
    rw [List.foldl_cons, e, fold_put Kf Vf r _ nd.2 fun b hb p hp => ?_]
    · simp
    · rcases List.mem_append.mp hp with q | q
      · exact h b (List.mem_cons_of_mem _ hb) p q
      · rw [List.mem_singleton.mp q]
        exact fun e => nd.1 (by rw [show Kf a = Kf b from e]; exact List.mem_map_of_mem hb)
theorem e_dcT_pure {α : Type} {ff : DF} {js : List Nat} {gdt : PyData → Sl → Option Sl} {fk fv : DE} {s : Sl} {Q : PyData → Sl → Prop} (enc : α → PyData) (Kf : α → List Key) (Vf : α → PyData)
    (h : Ge (ff s) fun ds s1 => ∃ as : List α, ds = as.map enc ∧ (js.all fun j => isNo s1[j]?) = true ∧ as.length < sizeLine ∧ (as.map Kf).Nodup ∧ (∀ a ∈ as, ∃ s0, gdt (enc a) s1 = some s0 ∧ fgS s0 js = s1 ∧ noOwnB js s0 = true ∧ (Ge (fk s0) fun x s2 => keyT x = some (Kf a) ∧ s2 = s0) ∧ Ge (fv s0) fun x s2 => x = Vf a ∧ s2 = s0) ∧ Q (.dict ((.none, .none) :: kvD (as.map fun a => (Kf a, Vf a)))) s1) : Ge (dDcT ff js gdt tYesD fk fv s) Q := by
  obtain ⟨ds, s1, e, as, rfl, no, l, nd, turn, k⟩ := h
  have hno : ∀ j ∈ js, s1[j]? = some .no := fun j hj => isNo_eq (List.all_eq_true.mp no j hj)
  have go : ∀ (bs : List α) (acc : List (List Key × PyData)) (sw : Sl), (∀ a ∈ bs, a ∈ as) → fgS sw js = s1 → dcRunT js gdt tYesD fk fv (bs.map enc) acc sw = some (bs.foldl (fun acc a => putL acc (Kf a) (Vf a)) acc, s1) := by
    intro bs
    induction bs with
    | nil => intro acc sw _ hw; show some (acc, fgS sw js) = _; rw [hw]; rfl
    | cons a r ih =>
      intro acc sw sub hw
      obtain ⟨s0, g1, g2, g3, ⟨x, s2, e2, kx, rfl⟩, ⟨y, s3, e3, rfl, rfl⟩⟩ := turn a (sub a List.mem_cons_self)
      rw [List.map_cons]
      unfold dcRunT
      rw [hw, g1, Option.bind_some]
      show ((some (true, s3)).bind _) = _
      rw [Option.bind_some]
      dsimp only
      rw [if_pos g3, if_pos rfl, e2, Option.bind_some]
      dsimp only
      rw [e3, Option.bind_some]
      dsimp only
      rw [if_pos g3, kx, Option.bind_some, ih _ s3 (fun z hz => sub z (List.mem_cons_of_mem _ hz)) g2]
      rfl
  refine ⟨_, s1, ?_, k⟩
  unfold dDcT
  rw [e, Option.bind_some]
  dsimp only
  rw [if_pos ⟨no, by rw [List.length_map]; exact l⟩, go as [] s1 (fun _ h => h) (fgS_no hno), fold_put Kf Vf as [] nd fun _ _ p hp => by cases hp]
  rfl
/-- what a place gains -/
def tv (ps : List (Pl × Int)) (m : Int) (p : Pl) : Int := ((ps.find? fun q => decide (q.1 = p)).map fun q => q.2 * m).getD 0
def turn (T : Tb) (ps : List (Pl × Int)) (m : Int) : Tb := ((List.range T.length).zip T).map fun q => ((List.range q.2.length).zip q.2).map fun c => c.2 + tv ps m (q.1, c.1)
theorem numd_map {α : Type} (f : α → PyData) (as : List α) : numd (as.map f) = ((List.range as.length).zip as).map fun q => .tuple [.int (q.1 : Nat), f q.2] := by
  unfold numd
  rw [List.length_map, List.zipWith_map, List.zip_eq_zipWith, List.map_zipWith]
theorem f_itE {fa : DE} {s : Sl} {QA : List PyData → Sl → Prop} (h : Ge (fa s) fun d s1 => ∃ ds, (d = .list ds ∨ d = .tuple ds) ∧ QA (numd ds) s1) : Ge (itE fa s) QA := by
  obtain ⟨d, s1, e, ds, rfl | rfl, q⟩ := h
  · exact ⟨_, s1, by unfold itE; rw [e]; rfl, q⟩
  · exact ⟨_, s1, by unfold itE; rw [e]; rfl, q⟩
theorem getL_tv (ps : List (Pl × Int)) (m : Int) (p : Pl) : (getL (ps.map fun q => (keyL q.1, PyData.int (q.2 * m))) (keyL p)).getD (.int 0) = .int (tv ps m p) := by
  unfold tv
  induction ps with
  | nil => rfl
  | cons q r ih =>
    rw [List.map_cons, getL_cons, List.find?_cons]
    by_cases e : q.1 = p
    · subst e
      simp
    · have : keyL q.1 ≠ keyL p := fun z => e (keyL_inj.mp z)
      rw [if_neg this, decide_eq_false e]
      exact ih
theorem turned_ok {T : Tb} {R C : Nat} (bx : Box T R C) {ps : List (Pl × Int)} (nd : (ps.map (·.1)).Nodup) (few : ps.length ≤ 30) (sg : ∀ q ∈ ps, q.2 = 1 ∨ q.2 = -1) {m : Int} (hm : 0 ≤ m ∧ m ≤ 100000000000) : Gd (m__turned [tD T, .list (ps.map stD), .int m]) fun q => q = tD (turn T ps m) := by
  unfold m__turned
  refine m_fnP rfl ?_
  unfold b__turned
  refine s_seq ?_
  refine s_set ?_
  refine e_dcT_pure stD (fun q : Pl × Int => keyL q.1) (fun q => .int (q.2 * m)) ?_
  refine f_itA ?_
  refine e_var rfl ?_
  refine .inl ⟨_, .inl rfl, ps, rfl, rfl, Nat.lt_of_le_of_lt few (by decide), ?_, fun q hq => ⟨_, rfl, rfl, rfl, ?_, ?_⟩, ?_⟩
  · have e : ps.map (fun q => keyL q.1) = (ps.map (·.1)).map keyL := by rw [List.map_map]; rfl
    rw [e]
    exact List.Pairwise.map keyL (fun a b h z => h (keyL_inj.mp z)) nd
  · refine e_var rfl ?_
    exact ⟨rfl, rfl⟩
  · refine e_op ?_
    refine e_var (d := .int q.2) rfl ?_
    refine e_var (d := .int m) rfl ?_
    show Gd (gMul (.int q.2) (.int m)) _
    have := sg q hq
    exact n_mul 40 (by omega) (by omega) (by omega) (by omega) (by decide) (by decide) ⟨rfl, rfl⟩
  · generalize hL : (PyData.dict ((.none, .none) :: kvD (ps.map fun q => (keyL q.1, PyData.int (q.2 * m))))) = D
    have look : ∀ p : Pl, lookD D (plD p) = some (getL (ps.map fun q => (keyL q.1, PyData.int (q.2 * m))) (keyL p)) := fun p => by
      rw [← hL]
      exact lookD_t (key_of_pl p)
    refine s_ret ?_
    refine e_b ?_
    refine a_cons ?_
    refine e_l ?_
    refine f_lcT_pure (fun q : Nat × List Int => .tuple [.int (q.1 : Nat), rowD q.2]) (fun _ => true) (fun q => rowD (((List.range q.2.length).zip q.2).map fun c => c.2 + tv ps m (q.1, c.1))) ?_
    refine f_itE ?_
    refine e_var (d := tD T) rfl ?_
    refine ⟨_, .inr rfl, (List.range T.length).zip T, numd_map rowD T, rfl, ?_, fun q hq => ⟨_, rfl, rfl, rfl, ?_, fun _ => ?_⟩, ?_⟩
    · rw [List.length_zip, List.length_range, bx.rows]
      have := bx.few
      exact Nat.lt_of_le_of_lt (show min R R ≤ 6 by omega) (by decide)
    · exact t_yes ⟨rfl, rfl⟩
    · have hT : q.2 ∈ T := (List.of_mem_zip (a := q.1) (b := q.2) hq).2
      refine e_b ?_
      refine a_cons ?_
      refine e_l ?_
      refine f_lcT_pure (fun c : Nat × Int => .tuple [.int (c.1 : Nat), .int c.2]) (fun _ => true) (fun c => .int (c.2 + tv ps m (q.1, c.1))) ?_
      refine f_itE ?_
      refine e_var (d := rowD q.2) rfl ?_
      refine ⟨_, .inr rfl, (List.range q.2.length).zip q.2, numd_map PyData.int q.2, rfl, ?_, fun c hc => ⟨_, rfl, rfl, rfl, ?_, fun _ => ?_⟩, ?_⟩
      · rw [List.length_zip, List.length_range, bx.cols _ hT]
        have := bx.few
        exact Nat.lt_of_le_of_lt (show min C C ≤ 6 by omega) (by decide)
      · exact t_yes ⟨rfl, rfl⟩
      · refine e_op ?_
        refine e_var (d := .int c.2) rfl ?_
        refine e_get2 ?_
        refine e_var (d := D) rfl ?_
        refine e_tup ?_
        refine a_cons ?_
        refine e_var (d := .int (q.1 : Nat)) rfl ?_
        refine a_cons ?_
        refine e_var (d := .int (c.1 : Nat)) rfl ?_
        refine a_nil ?_
        refine ⟨Nat.le_of_ble_eq_true rfl, ?_⟩
        refine e_c ?_
        refine gd (look (q.1, c.1)) ?_
        rw [getL_tv]
        exact n_add ⟨rfl, rfl⟩
      · refine a_nil ?_
        refine gd (a := rowD (((List.range q.2.length).zip q.2).map fun c => c.2 + tv ps m (q.1, c.1))) ?_ ⟨rfl, rfl⟩
        rw [List.filter_eq_self.mpr (fun _ _ => rfl)]
        unfold rowD
        rw [List.map_map]
        rfl
    · refine a_nil ?_
      rw [List.filter_eq_self.mpr (fun _ _ => rfl)]
      refine gd (a := tD (turn T ps m)) ?_ rfl
      unfold tD turn
      rw [List.map_map]
      rfl
end K70

/-! what goes round comes to nothing at each line -/
namespace K70
open PySem PySem.Spec PyProof.Rows L2 Dl
theorem Fo.par_in {T : Tb} {oth : List Pl} {bg : Pl} {cm : Cm} (h : Fo T oth bg cm) : ∀ {l p : Pl}, par cm l = some (some p) → p ∈ keys cm := by
  induction h with
  | one => intro l p e; unfold par at e; simp at e
  | @add cm a p0 h hp hl nl ih =>
    intro l p e
    rw [par_app] at e
    rw [keys_app]
    split at e
    · exact List.mem_append_left _ (ih e)
    · split at e
      · cases e; exact List.mem_append_left _ hp
      · cases e
theorem Fo.no_back {T : Tb} {oth : List Pl} {bg : Pl} {cm : Cm} (h : Fo T oth bg cm) : ∀ {l p : Pl}, par cm l = some (some p) → par cm p = some (some l) → False := by
  induction h with
  | one => intro l p e; unfold par at e; simp at e
  | @add cm a p0 h hp hl nl ih =>
    intro l p e1 e2
    rw [par_app] at e1 e2
    split at e1
    · rename_i hlk
      split at e2
      · exact ih e1 e2
      · split at e2
        · rename_i ea
          subst ea
          exact nl (h.par_in e1)
        · cases e2
    · split at e1
      · rename_i hlk ea
        cases e1
        subst ea
        rw [if_pos hp] at e2
        exact nl (h.par_in e2)
      · cases e1
theorem Way.par_of {cm : Cm} {l : Pl} {w : List (Pl × Pl)} (h : Way cm l w) : ∀ q ∈ w, par cm q.1 = some (some q.2) := by
  induction h with
  | stop h => intro q hq; cases hq
  | step h k ih =>
    intro q hq
    rcases List.mem_cons.mp hq with rfl | z
    · exact h
    · exact ih q z
theorem behind_side {T : Tb} {oth : List Pl} {l p : Pl} (h : l ∈ behind T oth p) : (p.1 = 0 ∧ l.1 = 1) ∨ (p.1 ≠ 0 ∧ l.1 = 0) := by
  unfold behind at h
  split at h
  · rename_i c
    obtain ⟨x, hx, rfl⟩ := List.mem_map.mp h
    exact .inl ⟨c, rfl⟩
  · rename_i c
    obtain ⟨x, hx, rfl⟩ := List.mem_map.mp h
    exact .inr ⟨c, rfl⟩
/-- the places of a way are unlike one another -/
theorem Wy.places {T : Tb} {R C : Nat} {oth : List Pl} {bg l : Pl} {cm : Cm} {w : List (Pl × Pl)} (ho : ∀ p ∈ oth, In R C p) (hb : Ln R C bg) (fo : Fo T oth bg cm) (h : Wy T oth bg cm l w) : ((w.map stepOf).map (·.1)).Nodup := by
  have par_ := h.way.par_of
  have good := fo.good ho hb
  have side : ∀ q ∈ w, q.2.1 = 0 ∨ q.2.1 = 1 := fun q hq => by
    have := good.2 q.2 (fo.par_in (par_ q hq))
    rcases this with z | z
    · exact .inl z.1
    · exact .inr z.1
  have inj : ∀ a ∈ w, ∀ b ∈ w, (stepOf a).1 = (stepOf b).1 → a.1 = b.1 := by
    intro a ha b hb' e
    have sa := behind_side (h.ok a ha)
    have sb := behind_side (h.ok b hb')
    have ta := side a ha
    have tb := side b hb'
    unfold stepOf at e
    by_cases ca : a.2.1 = 0
    · by_cases cb : b.2.1 = 0
      · rw [if_pos ca, if_pos cb] at e
        injection e with e1 e2
        have la : a.1.1 = 1 := by rcases sa with z | z; exact z.2; exact absurd ca z.1
        have lb : b.1.1 = 1 := by rcases sb with z | z; exact z.2; exact absurd cb z.1
        exact Prod.ext (la.trans lb.symm) e2
      · rw [if_pos ca, if_neg cb] at e
        injection e with e1 e2
        have la : a.1.1 = 1 := by rcases sa with z | z; exact z.2; exact absurd ca z.1
        have lb : b.1.1 = 0 := by rcases sb with z | z; exact absurd z.1 cb; exact z.2
        have b21 : b.2.1 = 1 := by rcases tb with z | z; exact absurd z cb; exact z
        have x1 : a.2 = b.1 := Prod.ext (ca.trans lb.symm) e1
        have x2 : a.1 = b.2 := Prod.ext (la.trans b21.symm) e2
        have pa := par_ a ha
        have pb := par_ b hb'
        rw [x1] at pa
        rw [← x2] at pb
        exact (fo.no_back pa pb).elim
    · by_cases cb : b.2.1 = 0
      · rw [if_neg ca, if_pos cb] at e
        injection e with e1 e2
        have la : a.1.1 = 0 := by rcases sa with z | z; exact absurd z.1 ca; exact z.2
        have lb : b.1.1 = 1 := by rcases sb with z | z; exact z.2; exact absurd cb z.1
        have a21 : a.2.1 = 1 := by rcases ta with z | z; exact absurd z ca; exact z
        have x1 : a.1 = b.2 := Prod.ext (la.trans cb.symm) e1
        have x2 : a.2 = b.1 := Prod.ext (a21.trans lb.symm) e2
        have pa := par_ a ha
        have pb := par_ b hb'
        rw [x2] at pa
        rw [← x1] at pb
        exact (fo.no_back pa pb).elim
      · rw [if_neg ca, if_neg cb] at e
        injection e with e1 e2
        have la : a.1.1 = 0 := by rcases sa with z | z; exact absurd z.1 ca; exact z.2
        have lb : b.1.1 = 0 := by rcases sb with z | z; exact absurd z.1 cb; exact z.2
        exact Prod.ext (la.trans lb.symm) e1
  have nd := h.nd
  clear par_ side good
  have go : ∀ v : List (Pl × Pl), (∀ q ∈ v, q ∈ w) → (v.map (·.1)).Nodup → ((v.map stepOf).map (·.1)).Nodup := by
    intro v
    induction v with
    | nil => intro _ _; exact List.nodup_nil
    | cons a r ih =>
      intro sub nd
      rw [List.map_cons, List.nodup_cons] at nd
      rw [List.map_cons, List.map_cons, List.nodup_cons]
      refine ⟨fun z => ?_, ih (fun q hq => sub q (List.mem_cons_of_mem _ hq)) nd.2⟩
      obtain ⟨y, hy, e⟩ := List.mem_map.mp z
      obtain ⟨b, hb', rfl⟩ := List.mem_map.mp hy
      have := inj b (sub b (List.mem_cons_of_mem _ hb')) a (sub a List.mem_cons_self) e
      exact nd.1 (by rw [← this]; exact List.mem_map_of_mem hb')
  exact go w (fun _ h => h) nd
/-- added up over the places that f names -/
def sg (f : Pl → Bool) (ps : List (Pl × Int)) : Int := ((ps.filter fun q => f q.1).map (·.2)).sum
theorem sg_cons (f : Pl → Bool) (q : Pl × Int) (r : List (Pl × Int)) : sg f (q :: r) = (if f q.1 = true then q.2 else 0) + sg f r := by
  unfold sg
  by_cases h : f q.1 = true
  · rw [List.filter_cons_of_pos (p := fun q : Pl × Int => f q.1) h, if_pos h, List.map_cons, List.sum_cons]
  · rw [List.filter_cons_of_neg (p := fun q : Pl × Int => f q.1) h, if_neg h, Int.zero_add]
def b2i (b : Bool) : Int := if b = true then 1 else 0
theorem tele_row {T : Tb} {oth : List Pl} {cm : Cm} {l : Pl} {w : List (Pl × Pl)} {bg : Pl} (h : Way cm l w) (hbg : ∀ p, par cm p = some none → p = bg) (ok : ∀ q ∈ w, q.1 ∈ behind T oth q.2) (r : Nat) : sg (fun p => decide (p.1 = r)) (w.map stepOf) = b2i (decide (bg = (0, r))) - b2i (decide (l = (0, r))) := by
  induction h with
  | @stop l h => rw [hbg l h]; simp [sg]
  | @step l p w h k ih =>
    rw [List.map_cons, sg_cons, ih fun q hq => ok q (List.mem_cons_of_mem _ hq)]
    have s := behind_side (ok (l, p) List.mem_cons_self)
    have s' : (p.1 = 0 ∧ l.1 = 1) ∨ (p.1 ≠ 0 ∧ l.1 = 0) := s
    obtain ⟨l1, l2⟩ := l
    obtain ⟨p1, p2⟩ := p
    unfold stepOf b2i
    dsimp only at s' ⊢
    rcases s' with ⟨rfl, rfl⟩ | ⟨c, rfl⟩
    · by_cases e : p2 = r
      · subst e; simp; omega
      · simp [e]
    · by_cases e : l2 = r
      · subst e; simp [c]; omega
      · simp [e, c]
theorem tele_col {T : Tb} {oth : List Pl} {cm : Cm} {l : Pl} {w : List (Pl × Pl)} {bg : Pl} (h : Way cm l w) (hbg : ∀ p, par cm p = some none → p = bg) (ok : ∀ q ∈ w, q.1 ∈ behind T oth q.2) (side : ∀ q ∈ w, q.2.1 = 0 ∨ q.2.1 = 1) (r : Nat) : sg (fun p => decide (p.2 = r)) (w.map stepOf) = b2i (decide (l = (1, r))) - b2i (decide (bg = (1, r))) := by
  induction h with
  | @stop l h => rw [hbg l h]; simp [sg]
  | @step l p w h k ih =>
    rw [List.map_cons, sg_cons, ih (fun q hq => ok q (List.mem_cons_of_mem _ hq)) fun q hq => side q (List.mem_cons_of_mem _ hq)]
    have s : (p.1 = 0 ∧ l.1 = 1) ∨ (p.1 ≠ 0 ∧ l.1 = 0) := behind_side (ok (l, p) List.mem_cons_self)
    have s2 : p.1 = 0 ∨ p.1 = 1 := side (l, p) List.mem_cons_self
    obtain ⟨l1, l2⟩ := l
    obtain ⟨p1, p2⟩ := p
    unfold stepOf b2i
    dsimp only at s s2 ⊢
    rcases s with ⟨rfl, rfl⟩ | ⟨c, rfl⟩
    · by_cases e : l2 = r
      · subst e; simp; omega
      · simp [e]
    · have c1 : p1 = 1 := by omega
      subst c1
      by_cases e : p2 = r
      · subst e; simp; omega
      · simp [e]
theorem Fo.bg_of {T : Tb} {oth : List Pl} {bg : Pl} {cm : Cm} (h : Fo T oth bg cm) : ∀ p, par cm p = some none → p = bg := by
  induction h with
  | one =>
    intro p e
    unfold par at e
    by_cases c : bg = p
    · exact c.symm
    · simp [c] at e
  | @add cm a p0 h hp hl nl ih =>
    intro p e
    rw [par_app] at e
    split at e
    · exact ih p e
    · split at e
      · cases e
      · cases e
end K70

/-! sums over the hidden places stay -/
namespace K70
open PySem PySem.Spec PyProof.Rows L2 Dl
theorem cell_turn {T : Tb} {R C : Nat} (bx : Box T R C) (ps : List (Pl × Int)) (m : Int) {p : Pl} (hp : In R C p) : cell (turn T ps m) p = cell T p + tv ps m p := by
  have h1 : p.1 < T.length := by rw [bx.rows]; exact hp.1
  have h2 : p.2 < (T[p.1]).length := by rw [bx.cols _ (List.getElem_mem h1)]; exact hp.2
  have e1 : ((List.range T.length).zip T)[p.1]? = some (p.1, T[p.1]) := by
    rw [List.getElem?_zip_eq_some]
    exact ⟨List.getElem?_range h1, List.getElem?_eq_getElem h1⟩
  have e2 : ((List.range (T[p.1]).length).zip T[p.1])[p.2]? = some (p.2, (T[p.1])[p.2]) := by
    rw [List.getElem?_zip_eq_some]
    exact ⟨List.getElem?_range h2, List.getElem?_eq_getElem h2⟩
  have a1 : (turn T ps m).getD p.1 [] = ((List.range (T[p.1]).length).zip T[p.1]).map fun c => c.2 + tv ps m (p.1, c.1) := by
    unfold turn
    rw [List.getD_eq_getElem?_getD, List.getElem?_map, e1]
    rfl
  have a2 : (((List.range (T[p.1]).length).zip T[p.1]).map fun c => c.2 + tv ps m (p.1, c.1)).getD p.2 0 = (T[p.1])[p.2] + tv ps m p := by
    rw [List.getD_eq_getElem?_getD, List.getElem?_map, e2]
    rfl
  have a3 : T.getD p.1 [] = T[p.1] := by
    rw [List.getD_eq_getElem?_getD, List.getElem?_eq_getElem h1]
    rfl
  have a4 : (T[p.1]).getD p.2 0 = (T[p.1])[p.2] := by
    rw [List.getD_eq_getElem?_getD, List.getElem?_eq_getElem h2]
    rfl
  unfold cell
  rw [a1, a2, a3, a4]
theorem turn_len (T : Tb) (ps : List (Pl × Int)) (m : Int) : (turn T ps m).length = T.length := by
  unfold turn
  rw [List.length_map, List.length_zip, List.length_range, Nat.min_self]
theorem turn_rows {T : Tb} {R C : Nat} (bx : Box T R C) (ps : List (Pl × Int)) (m : Int) : ∀ r ∈ turn T ps m, r.length = C := by
  intro r hr
  unfold turn at hr
  obtain ⟨q, hq, rfl⟩ := List.mem_map.mp hr
  rw [List.length_map, List.length_zip, List.length_range, Nat.min_self]
  exact bx.cols _ (List.of_mem_zip (a := q.1) (b := q.2) hq).2
/-- the sum over the hidden places that f names -/
def su (T : Tb) (f : Pl → Bool) (h : List Pl) : Int := ((h.filter f).map (cell T)).sum
theorem one_of_h (f : Pl → Bool) (a : Pl) (x : Int) : ∀ h : List Pl, h.Nodup → ((h.filter f).map fun p => if a = p then x else 0).sum = if a ∈ h ∧ f a = true then x else 0
  | [], _ => by simp
  | p :: r, nd => by
    have nd' := List.nodup_cons.mp nd
    have ih := one_of_h f a x r nd'.2
    by_cases e : a = p
    · subst e
      have z : ((r.filter f).map fun p => if a = p then x else 0).sum = 0 := by rw [ih, if_neg fun q => nd'.1 q.1]
      by_cases fa : f a = true
      · rw [List.filter_cons_of_pos fa, List.map_cons, List.sum_cons, z, if_pos rfl, if_pos ⟨List.mem_cons_self, fa⟩, Int.add_zero]
      · rw [List.filter_cons_of_neg fa, z, if_neg fun q => fa q.2]
    · have m1 : a ∈ p :: r ↔ a ∈ r := by simp [e]
      by_cases fp : f p = true
      · rw [List.filter_cons_of_pos fp, List.map_cons, List.sum_cons, if_neg e, Int.zero_add, ih]
        simp [m1]
      · rw [List.filter_cons_of_neg fp, ih]
        simp [m1]
theorem tv_cons (q : Pl × Int) (r : List (Pl × Int)) (m : Int) (p : Pl) (n : ∀ x ∈ r, x.1 ≠ q.1) : tv (q :: r) m p = (if q.1 = p then q.2 * m else 0) + tv r m p := by
  unfold tv
  rw [List.find?_cons]
  by_cases e : q.1 = p
  · subst e
    have z : r.find? (fun x => decide (x.1 = q.1)) = none := List.find?_eq_none.mpr fun x hx => by simpa using n x hx
    simp [z]
  · simp [e]
theorem sum_add (f g : Pl → Int) : ∀ h : List Pl, (h.map fun p => f p + g p).sum = (h.map f).sum + (h.map g).sum
  | [] => rfl
  | p :: r => by rw [List.map_cons, List.map_cons, List.map_cons, List.sum_cons, List.sum_cons, List.sum_cons, sum_add f g r]; omega
theorem gain_sum (f : Pl → Bool) (m : Int) {h : List Pl} (nd : h.Nodup) : ∀ ps : List (Pl × Int), (ps.map (·.1)).Nodup → (∀ q ∈ ps, q.1 ∈ h) → ((h.filter f).map (tv ps m)).sum = sg f ps * m
  | [], _, _ => by
    have : ∀ l : List Pl, (l.map (tv [] m)).sum = 0 := fun l => by
      induction l with
      | nil => rfl
      | cons a r ih => rw [List.map_cons, List.sum_cons, ih]; rfl
    rw [this]
    simp [sg]
  | q :: r, n, hin => by
    rw [List.map_cons, List.nodup_cons] at n
    have nq : ∀ x ∈ r, x.1 ≠ q.1 := fun x hx e => n.1 (by rw [← e]; exact List.mem_map_of_mem hx)
    have e : tv (q :: r) m = fun p => (if q.1 = p then q.2 * m else 0) + tv r m p := funext fun p => tv_cons q r m p nq
    rw [e, sum_add, one_of_h f q.1 (q.2 * m) h nd, gain_sum f m nd r n.2 fun x hx => hin x (List.mem_cons_of_mem _ hx), sg_cons, Int.add_mul]
    by_cases fq : f q.1 = true
    · rw [if_pos ⟨hin q List.mem_cons_self, fq⟩, if_pos fq]
    · rw [if_neg fun z => fq z.2, if_neg fq, Int.zero_mul]
theorem su_turn {T : Tb} {R C : Nat} (bx : Box T R C) {h : List Pl} (hh : ∀ p ∈ h, In R C p) (nd : h.Nodup) {ps : List (Pl × Int)} (n : (ps.map (·.1)).Nodup) (hin : ∀ q ∈ ps, q.1 ∈ h) (m : Int) (f : Pl → Bool) (z : sg f ps = 0) : su (turn T ps m) f h = su T f h := by
  have e : (h.filter f).map (cell (turn T ps m)) = (h.filter f).map fun p => cell T p + tv ps m p := List.map_congr_left fun p hp => cell_turn bx ps m (hh p (List.mem_filter.mp hp).1)
  unfold su
  rw [e, sum_add, gain_sum f m nd ps n hin, z, Int.zero_mul, Int.add_zero]
end K70

/-! one round -/
namespace K70
open PySem PySem.Spec PyProof.Rows L2 Dl
def rowF (r : Nat) : Pl → Bool := fun p => decide (p.1 = r)
def colF (c : Nat) : Pl → Bool := fun p => decide (p.2 = c)
/-- from where and where to -/
def bgOf (place : Pl) (turn : Int) : Pl := if turn = -1 then (0, place.1) else (1, place.2)
def goOf (place : Pl) (turn : Int) : Pl := if turn = -1 then (1, place.2) else (0, place.1)
theorem round_row {T : Tb} {R C : Nat} {oth : List Pl} {place : Pl} {tn : Int} (ht : tn = 1 ∨ tn = -1) {cm : Cm} {w : List (Pl × Pl)} (fo : Fo T oth (bgOf place tn) cm) (wy : Wy T oth (bgOf place tn) cm (goOf place tn) w) (r : Nat) : sg (rowF r) (roundOf place tn w) = 0 := by
  unfold roundOf
  rw [sg_cons]
  have t : sg (rowF r) (w.map stepOf) = _ := tele_row wy.way fo.bg_of wy.ok r
  rw [t]
  unfold bgOf goOf rowF b2i
  rcases ht with rfl | rfl
  · by_cases e : place.1 = r
    · subst e; simp
    · simp [e]
  · by_cases e : place.1 = r
    · subst e; simp
    · simp [e]
theorem round_col {T : Tb} {R C : Nat} {oth : List Pl} {place : Pl} {tn : Int} (ht : tn = 1 ∨ tn = -1) (ho : ∀ p ∈ oth, In R C p) (hp : In R C place) {cm : Cm} {w : List (Pl × Pl)} (fo : Fo T oth (bgOf place tn) cm) (wy : Wy T oth (bgOf place tn) cm (goOf place tn) w) (c : Nat) : sg (colF c) (roundOf place tn w) = 0 := by
  have hb : Ln R C (bgOf place tn) := by
    unfold bgOf Ln
    split
    · exact .inl ⟨rfl, hp.1⟩
    · exact .inr ⟨rfl, hp.2⟩
  have good := fo.good ho hb
  have side : ∀ q ∈ w, q.2.1 = 0 ∨ q.2.1 = 1 := fun q hq => by
    rcases good.2 q.2 (fo.par_in (wy.way.par_of q hq)) with z | z
    · exact .inl z.1
    · exact .inr z.1
  unfold roundOf
  rw [sg_cons]
  have t : sg (colF c) (w.map stepOf) = _ := tele_col wy.way fo.bg_of wy.ok side c
  rw [t]
  unfold bgOf goOf colF b2i
  rcases ht with rfl | rfl
  · by_cases e : place.2 = c
    · subst e; simp
    · simp [e]
  · by_cases e : place.2 = c
    · subst e; simp
    · simp [e]
/-- a table that can stand in the place of T0 -/
structure Rd (T0 : Tb) (R C : Nat) (h : List Pl) (T : Tb) : Prop where
  box : Box T R C
  rows : ∀ r, su T (rowF r) h = su T0 (rowF r) h
  cols : ∀ c, su T (colF c) h = su T0 (colF c) h
  out : ∀ p, In R C p → p ∉ h → cell T p = cell T0 p
theorem box_cell {T : Tb} {R C : Nat} (b : Box T R C) {p : Pl} (hp : In R C p) : 0 ≤ cell T p ∧ cell T p ≤ 10000000000 := by
  have h1 : p.1 < T.length := by rw [b.rows]; exact hp.1
  have h2 : p.2 < (T[p.1]).length := by rw [b.cols _ (List.getElem_mem h1)]; exact hp.2
  have e : cell T p = (T[p.1])[p.2] := by
    unfold cell
    simp [List.getD_eq_getElem?_getD, List.getElem?_eq_getElem h1, List.getElem?_eq_getElem h2]
  rw [e]
  exact b.pos _ (List.getElem_mem h1) _ (List.getElem_mem h2)
theorem box_of {T : Tb} {R C : Nat} (rows : T.length = R) (cols : ∀ r ∈ T, r.length = C) (few : (1 ≤ R ∧ R ≤ 6) ∧ 1 ≤ C ∧ C ≤ 6) (pos : ∀ p, In R C p → 0 ≤ cell T p ∧ cell T p ≤ 10000000000) : Box T R C := by
  refine ⟨rows, cols, few, fun r hr x hx => ?_⟩
  obtain ⟨i, hi, rfl⟩ := List.getElem_of_mem hr
  obtain ⟨j, hj, rfl⟩ := List.getElem_of_mem hx
  have := pos (i, j) ⟨by rw [← rows]; exact hi, by rw [← cols _ (List.getElem_mem hi)]; exact hj⟩
  unfold cell at this
  simpa [List.getD_eq_getElem?_getD, List.getElem?_eq_getElem hi, List.getElem?_eq_getElem hj] using this
theorem sum_pos : ∀ l : List Int, (∀ x ∈ l, 0 ≤ x) → 0 ≤ l.sum
  | [], _ => Int.le_refl 0
  | x :: r, h => by
    have := h x List.mem_cons_self
    have := sum_pos r fun y hy => h y (List.mem_cons_of_mem _ hy)
    rw [List.sum_cons]; omega
theorem le_sum : ∀ {l : List Int} {x : Int}, (∀ y ∈ l, 0 ≤ y) → x ∈ l → x ≤ l.sum
  | y :: r, x, h, hx => by
    have h0 := h y List.mem_cons_self
    have hr : ∀ z ∈ r, 0 ≤ z := fun z hz => h z (List.mem_cons_of_mem _ hz)
    rw [List.sum_cons]
    rcases List.mem_cons.mp hx with rfl | q
    · have := sum_pos r hr; omega
    · have := le_sum hr q; omega
theorem tv_cases {ps : List (Pl × Int)} (sgn : ∀ q ∈ ps, q.2 = 1 ∨ q.2 = -1) (m : Int) (p : Pl) : tv ps m p = 0 ∨ tv ps m p = m ∨ (tv ps m p = -m ∧ p ∈ lose ps) := by
  unfold tv
  cases e : ps.find? fun q => decide (q.1 = p) with
  | none => exact .inl rfl
  | some q =>
    have hq := List.mem_of_find?_eq_some e
    have e2 : q.1 = p := by simpa using List.find?_some e
    rcases sgn q hq with z | z
    · exact .inr (.inl (by simp [z]))
    · refine .inr (.inr ⟨by simp [z], ?_⟩)
      unfold lose
      exact List.mem_map.mpr ⟨q, List.mem_filter.mpr ⟨hq, by rw [z]; decide⟩, e2⟩
theorem tv_out {ps : List (Pl × Int)} {m : Int} {p : Pl} (h : ∀ q ∈ ps, q.1 ≠ p) : tv ps m p = 0 := by
  unfold tv
  rw [List.find?_eq_none.mpr fun q hq => by simpa using h q hq]
  rfl
/-- .. turned by a round it still can -/
theorem Rd.turned {T0 T : Tb} {R C : Nat} {h : List Pl} (rd : Rd T0 R C h T) (hh : ∀ p ∈ h, In R C p) (nd : h.Nodup) (lim : ∀ r, su T0 (rowF r) h ≤ 10000000000) {ps : List (Pl × Int)} (n : (ps.map (·.1)).Nodup) (hin : ∀ q ∈ ps, q.1 ∈ h) (sgn : ∀ q ∈ ps, q.2 = 1 ∨ q.2 = -1) {m : Int} (hm : 0 ≤ m) (lo : ∀ p ∈ lose ps, m ≤ cell T p)
    (zr : ∀ r, sg (rowF r) ps = 0) (zc : ∀ c, sg (colF c) ps = 0) : Rd T0 R C h (turn T ps m) := by
  have rows : ∀ r, su (turn T ps m) (rowF r) h = su T0 (rowF r) h := fun r => by rw [su_turn rd.box hh nd n hin m _ (zr r), rd.rows]
  have cols : ∀ c, su (turn T ps m) (colF c) h = su T0 (colF c) h := fun c => by rw [su_turn rd.box hh nd n hin m _ (zc c), rd.cols]
  have out : ∀ p, In R C p → p ∉ h → cell (turn T ps m) p = cell T p := fun p hp hn => by
    rw [cell_turn rd.box ps m hp, tv_out fun q hq e => hn (by rw [← e]; exact hin q hq), Int.add_zero]
  have nn : ∀ p, In R C p → 0 ≤ cell (turn T ps m) p := fun p hp => by
    rw [cell_turn rd.box ps m hp]
    have := box_cell rd.box hp
    rcases tv_cases sgn m p with e | e | ⟨e, hl⟩
    · omega
    · omega
    · have := lo p hl; omega
  refine ⟨box_of (by rw [turn_len]; exact rd.box.rows) (turn_rows rd.box ps m) rd.box.few fun p hp => ⟨nn p hp, ?_⟩, rows, cols, fun p hp hn => by rw [out p hp hn, rd.out p hp hn]⟩
  by_cases hmem : p ∈ h
  · have h1 : cell (turn T ps m) p ≤ su (turn T ps m) (rowF p.1) h := by
      unfold su
      refine le_sum (fun y hy => ?_) (List.mem_map_of_mem (List.mem_filter.mpr ⟨hmem, by unfold rowF; exact decide_eq_true rfl⟩))
      obtain ⟨q, hq, rfl⟩ := List.mem_map.mp hy
      exact nn q (hh q (List.mem_filter.mp hq).1)
    rw [rows] at h1
    exact Int.le_trans h1 (lim p.1)
  · rw [out p hp hmem]
    exact (box_cell rd.box hp).2
end K70

/-! round after round -/
namespace K70
open PySem PySem.Spec PyProof.Rows L2 Dl
def BS (T0 : Tb) (h oth : List Pl) (place : Pl) (tn : Int) (T : Tb) (cm : Cm) (m : Int) : Sl := [.dat (tD T0), .dat (hD h), .dat (plD place), .dat (.int tn), .dat (lD oth), .no, .dat (plD (bgOf place tn)), .dat (plD (goOf place tn)), .dat (tD T), .dat (cameD cm), .dat (.int m), .no]
def whileB : DS := (sWhile (dTst (dOp gGt (dVar 10) (dC (.int 0))))
  (sSeq (sSet 8 (dCall m__turned (aCons (dVar 8) (aCons (dCall m__places_round (aCons (dVar 2) (aCons (dVar 3) (aCons (dVar 9) (aCons (dVar 7) aNil))))) (aCons (dVar 10) aNil)))))
  (sSeq (sSet 9 (dCall m__reached (aCons (dVar 8) (aCons (dVar 4) (aCons (dVar 6) aNil)))))
  (sSet 10 (dCall m__most_round (aCons (dVar 8) (aCons (dVar 2) (aCons (dVar 3) (aCons (dVar 9) (aCons (dVar 7) aNil))))))))) bigF)
structure Sc (T0 : Tb) (R C : Nat) (h oth : List Pl) (place : Pl) (tn : Int) : Prop where
  tn_ : tn = 1 ∨ tn = -1
  hin : ∀ p ∈ h, In R C p
  nd : h.Nodup
  few : h.length ≤ 36
  at_ : place ∈ h
  oth_ : ∀ p, p ∈ oth ↔ p ∈ h ∧ p ≠ place
  lo : oth.length ≤ 36
  lim : ∀ r, su T0 (rowF r) h ≤ 10000000000
theorem Sc.bg {T0 : Tb} {R C : Nat} {h oth : List Pl} {place : Pl} {tn : Int} (s : Sc T0 R C h oth place tn) : Ln R C (bgOf place tn) := by
  have hp := s.hin place s.at_
  unfold bgOf Ln
  split
  · exact .inl ⟨rfl, hp.1⟩
  · exact .inr ⟨rfl, hp.2⟩
theorem go_ne_bg (place : Pl) (tn : Int) : goOf place tn ≠ bgOf place tn := by
  unfold goOf bgOf
  split <;> (intro e; injection e with e1 _; exact absurd e1 (by decide))
/-- the round, what is known of it -/
structure Ro (T : Tb) (h oth : List Pl) (place : Pl) (tn : Int) (cm : Cm) (w : List (Pl × Pl)) : Prop where
  wy : Wy T oth (bgOf place tn) cm (goOf place tn) w
  few : w.length ≤ 20
  nd : ((roundOf place tn w).map (·.1)).Nodup
  hin : ∀ q ∈ roundOf place tn w, q.1 ∈ h
  sgn : ∀ q ∈ roundOf place tn w, q.2 = 1 ∨ q.2 = -1
  ne : lose (roundOf place tn w) ≠ []
  zero : ∀ p ∈ lose (roundOf place tn w), cell T p = 0 → tn = -1 ∧ p = place
theorem round_of {T0 T : Tb} {R C : Nat} {h oth : List Pl} {place : Pl} {tn : Int} (s : Sc T0 R C h oth place tn) (bx : Box T R C) {cm : Cm} (fo : Fo T oth (bgOf place tn) cm) (hg : goOf place tn ∈ keys cm) : ∃ w, Ro T h oth place tn cm w := by
  have ho : ∀ p ∈ oth, In R C p := fun p hp => s.hin p ((s.oth_ p).mp hp).1
  obtain ⟨w, wy⟩ := fo.wy _ hg
  have few := fo.few bx.few.1.2 bx.few.2.2 ho s.bg
  have stp : ∀ x ∈ w.map stepOf, x.1 ∈ oth ∧ (x.2 = 1 ∨ (x.2 = -1 ∧ 0 < cell T x.1)) := fun x hx => by
    obtain ⟨q, hq, rfl⟩ := List.mem_map.mp hx
    exact step_in (wy.ok q hq)
  refine ⟨w, wy, Nat.le_trans wy.few (by omega), ?_, fun q hq => ?_, fun q hq => ?_, ?_, fun p hp z => ?_⟩
  · unfold roundOf
    rw [List.map_cons, List.nodup_cons]
    refine ⟨fun z => ?_, wy.places ho s.bg fo⟩
    obtain ⟨x, hx, e⟩ := List.mem_map.mp z
    exact ((s.oth_ x.1).mp (stp x hx).1).2 e
  · rcases List.mem_cons.mp hq with rfl | z
    · exact s.at_
    · exact ((s.oth_ q.1).mp (stp q z).1).1
  · rcases List.mem_cons.mp hq with rfl | z
    · exact s.tn_
    · exact (stp q z).2.imp id fun y => y.1
  · rcases s.tn_ with rfl | rfl
    · cases hw : wy.way with
      | stop h => exact absurd (fo.bg_of _ h) (go_ne_bg _ _)
      | @step _ p w' h k =>
        intro e
        have hb := behind_side (wy.ok (goOf place 1, p) List.mem_cons_self)
        have hb : (p.1 = 0 ∧ (goOf place 1).1 = 1) ∨ (p.1 ≠ 0 ∧ (goOf place 1).1 = 0) := hb
        have g0 : (goOf place 1).1 = 0 := rfl
        have c : p.1 ≠ 0 := by
          rcases hb with z | z
          · rw [g0] at z; exact absurd z.2 (by decide)
          · exact z.1
        have : (stepOf (goOf place 1, p)).1 ∈ lose (roundOf place 1 ((goOf place 1, p) :: w')) := by
          unfold lose roundOf
          refine List.mem_map.mpr ⟨stepOf (goOf place 1, p), List.mem_filter.mpr ⟨List.mem_cons_of_mem _ (by simp), ?_⟩, rfl⟩
          unfold stepOf
          rw [if_neg c]
          rfl
        rw [e] at this
        cases this
    · intro e
      have : place ∈ lose (roundOf place (-1) w) := by
        unfold lose roundOf
        exact List.mem_map.mpr ⟨(place, -1), List.mem_filter.mpr ⟨List.mem_cons_self, rfl⟩, rfl⟩
      rw [e] at this
      cases this
  · unfold lose roundOf at hp
    obtain ⟨q, hq, rfl⟩ := List.mem_map.mp hp
    obtain ⟨h1, h2⟩ := List.mem_filter.mp hq
    have h2 := of_decide_eq_true h2
    rcases List.mem_cons.mp h1 with rfl | y
    · refine ⟨?_, rfl⟩
      rcases s.tn_ with e | e
      · exfalso
        have h2 : tn < 0 := h2
        omega
      · exact e
    · exfalso
      rcases (stp q y).2 with e | ⟨_, e⟩
      · omega
      · omega
end K70

/-! round after round, till none is left -/
namespace K70
open PySem PySem.Spec PyProof.Rows L2 Dl
/-- how many can go, known of the walk -/
def Mo (T : Tb) (h oth : List Pl) (place : Pl) (tn : Int) (cm : Cm) (m : Int) : Prop := (goOf place tn ∉ keys cm ∧ m = 0) ∨ ∃ w, Ro T h oth place tn cm w ∧ (∀ p ∈ lose (roundOf place tn w), m ≤ cell T p) ∧ ∃ p ∈ lose (roundOf place tn w), m = cell T p
theorem most_any {T0 T : Tb} {R C : Nat} {h oth : List Pl} {place : Pl} {tn : Int} (s : Sc T0 R C h oth place tn) (bx : Box T R C) {cm : Cm} (fo : Fo T oth (bgOf place tn) cm) : Gd (m__most_round [tD T, plD place, .int tn, cameD cm, plD (goOf place tn)]) fun q => ∃ m : Int, q = .int m ∧ Mo T h oth place tn cm m := by
  by_cases hg : goOf place tn ∈ keys cm
  · obtain ⟨w, ro⟩ := round_of s bx fo hg
    refine gd_mono (most_ok bx ro.wy.way ro.few (fun q hq => s.hin _ (ro.hin q hq)) ro.ne) fun q hq => ?_
    obtain ⟨m, rfl, h1, h2⟩ := hq
    exact ⟨m, rfl, .inr ⟨w, ro, h1, h2⟩⟩
  · refine gd_mono (most_no hg) fun q hq => ?_
    exact ⟨0, hq, .inl ⟨hg, rfl⟩⟩
theorem tv_place (place : Pl) (tn m : Int) (w : List (Pl × Pl)) : tv (roundOf place tn w) m place = tn * m := by
  unfold tv roundOf
  rw [List.find?_cons]
  simp
theorem while_ok {T0 : Tb} {R C : Nat} {h oth : List Pl} {place : Pl} {tn : Int} (s : Sc T0 R C h oth place tn) {T : Tb} (rd : Rd T0 R C h T) {cm : Cm} (re : Reach T oth (bgOf place tn) cm) {m : Int} (mo : Mo T h oth place tn cm m) {N : Sl → Prop} {Q : PyData → Sl → Prop}
    (k' : ∀ (T : Tb) (cm : Cm) (m : Int), Rd T0 R C h T → Reach T oth (bgOf place tn) cm → (goOf place tn ∉ keys cm ∨ (tn = -1 ∧ cell T place = 0)) → N (BS T0 h oth place tn T cm m)) :
    Gs (whileB (BS T0 h oth place tn T cm m)) N Q := by
  have hp := s.hin place s.at_
  have ho : ∀ p ∈ oth, In R C p := fun p hp => s.hin p ((s.oth_ p).mp hp).1
  unfold whileB
  refine s_while (I := fun n st => ∃ (T : Tb) (cm : Cm) (m : Int), st = BS T0 h oth place tn T cm m ∧ Rd T0 R C h T ∧ Reach T oth (bgOf place tn) cm ∧ Mo T h oth place tn cm m ∧ n = (if tn = -1 then (cell T place).toNat else (10000000000 - cell T place).toNat)) ?_ (fun n st hI => ?_)
  · refine ⟨_, ?_, T, cm, m, rfl, rd, re, mo, rfl⟩
    have := box_cell rd.box hp
    split <;> omega
  · obtain ⟨T, cm, m, rfl, rd, re, mo, rfl⟩ := hI
    refine t_tst ?_
    refine e_op ?_
    refine e_var (d := .int m) rfl ?_
    refine e_c ?_
    refine gd (gt_int m 0) ⟨_, rfl, ?_⟩
    by_cases c : 0 < m
    · refine .inl ⟨decide_eq_true c, ?_⟩
      rcases mo with ⟨_, z⟩ | ⟨w, ro, h1, p0, hp0, e0⟩
      · omega
      have up : m ≤ 10000000000 := by
        rw [e0]
        unfold lose at hp0
        obtain ⟨q, hq, rfl⟩ := List.mem_map.mp hp0
        exact (box_cell rd.box (s.hin _ (ro.hin q (List.mem_filter.mp hq).1))).2
      have lr : (roundOf place tn w).length ≤ 30 := by
        unfold roundOf
        rw [List.length_cons, List.length_map]
        have := ro.few
        omega
      have rd2 : Rd T0 R C h (turn T (roundOf place tn w) m) := rd.turned s.hin s.nd s.lim ro.nd ro.hin ro.sgn (by omega) h1 (fun r => round_row (R := R) (C := C) s.tn_ re.fo ro.wy r) (fun c => round_col s.tn_ ho hp re.fo ro.wy c)
      refine s_seq ?_
      refine s_set ?_
      refine e_call ?_
      refine a_cons ?_
      refine e_var (d := tD T) rfl ?_
      refine a_cons ?_
      refine e_call ?_
      refine a_cons ?_
      refine e_var (d := plD place) rfl ?_
      refine a_cons ?_
      refine e_var (d := .int tn) rfl ?_
      refine a_cons ?_
      refine e_var (d := cameD cm) rfl ?_
      refine a_cons ?_
      refine e_var (d := plD (goOf place tn)) rfl ?_
      refine a_nil ?_
      refine gd_mono (places_ok ro.wy.way ro.few) fun q hq => ?_
      subst hq
      refine a_cons ?_
      refine e_var (d := .int m) rfl ?_
      refine a_nil ?_
      refine gd_mono (turned_ok rd.box ro.nd lr ro.sgn ⟨by omega, by omega⟩) fun q hq => ?_
      subst hq
      refine s_seq ?_
      refine s_set ?_
      refine e_call ?_
      refine a_cons ?_
      refine e_var (d := tD (turn T (roundOf place tn w) m)) rfl ?_
      refine a_cons ?_
      refine e_var (d := lD oth) rfl ?_
      refine a_cons ?_
      refine e_var (d := plD (bgOf place tn)) rfl ?_
      refine a_nil ?_
      refine gd_mono (reached_ok rd2.box ho s.lo s.bg) fun q hq => ?_
      obtain ⟨cm2, rfl, re2⟩ := hq
      refine s_set ?_
      refine e_call ?_
      refine a_cons ?_
      refine e_var (d := tD (turn T (roundOf place tn w) m)) rfl ?_
      refine a_cons ?_
      refine e_var (d := plD place) rfl ?_
      refine a_cons ?_
      refine e_var (d := .int tn) rfl ?_
      refine a_cons ?_
      refine e_var (d := cameD cm2) rfl ?_
      refine a_cons ?_
      refine e_var (d := plD (goOf place tn)) rfl ?_
      refine a_nil ?_
      refine gd_mono (most_any s rd2.box re2.fo) fun q hq => ?_
      obtain ⟨m2, rfl, mo2⟩ := hq
      have e1 : cell (turn T (roundOf place tn w) m) place = cell T place + tn * m := by rw [cell_turn rd.box _ m hp, tv_place]
      have b1 := box_cell rd.box hp
      have b2 := box_cell rd2.box hp
      refine ⟨_, ?_, turn T (roundOf place tn w) m, cm2, m2, rfl, rd2, re2, mo2, rfl⟩
      rw [e1] at b2 ⊢
      rcases s.tn_ with rfl | rfl
      · rw [if_neg (by decide), if_neg (by decide)]
        omega
      · rw [if_pos rfl, if_pos rfl]
        omega
    · refine .inr ⟨decide_eq_false c, k' T cm m rd re ?_⟩
      rcases mo with ⟨z, _⟩ | ⟨w, ro, h1, p0, hp0, e0⟩
      · exact .inl z
      · have hp0' := hp0
        unfold lose at hp0
        obtain ⟨q, hq, rfl⟩ := List.mem_map.mp hp0
        have b := box_cell rd.box (s.hin _ (ro.hin q (List.mem_filter.mp hq).1))
        obtain ⟨t1, t2⟩ := ro.zero q.1 hp0' (by omega)
        refine .inr ⟨t1, ?_⟩
        rw [← t2]
        omega
end K70

/-! the paper -/
namespace K70
open PySem PySem.Spec PyProof.Rows L2 Dl
/-- which lines a dict has -/
def Has (D : PyData) (rc : Pl → Bool) : Prop := ∀ l : Pl, ∃ o, lookD D (plD l) = some o ∧ o.isSome = rc l
theorem has_came (cm : Cm) : Has (cameD cm) fun l => decide (l ∈ keys cm) := fun l => by
  refine ⟨_, look_came cm l, ?_⟩
  have := @par_some cm l
  rw [Option.isSome_map]
  show (par cm l).isSome = decide (l ∈ keys cm)
  by_cases h : l ∈ keys cm
  · rw [decide_eq_true h]; exact this.mpr h
  · rw [decide_eq_false h]
    cases e : (par cm l).isSome with
    | false => rfl
    | true => exact absurd (this.mp e) h
theorem has_none : Has (.dict [(.none, .none)]) fun _ => false := fun l => ⟨none, lookD_t (ds := []) (key_of_pl l), rfl⟩
def rowsP (rc : Pl → Bool) (tn : Int) (R : Nat) : List Int := (List.range R).map fun a => if rc (0, a) = true then -tn else 0
def colsP (rc : Pl → Bool) (tn : Int) (C : Nat) : List Int := (List.range C).map fun a => if rc (1, a) = true then tn else 0
def paperD (rc : Pl → Bool) (tn : Int) (R C : Nat) : PyData := .tuple [rowD (rowsP rc tn R), rowD (colsP rc tn C)]
theorem rng0 (n : Nat) : rng 0 (n : Int) = (List.range n).map fun (k : Nat) => .int (k : Int) := by
  unfold rng
  rw [Int.sub_zero, Int.toNat_natCast]
  simp
def natOf : PyData → Nat
  | .int i => i.toNat
  | _ => 0
theorem paper_ok {T : Tb} {R C : Nat} (bx : Box T R C) {D : PyData} {rc : Pl → Bool} (hs : Has D rc) (tn : Int) : Gd (m__paper [tD T, D, .int tn]) fun q => q = paperD rc tn R C := by
  have look : ∀ (a b : Nat), gInD false (.tuple [.int (a : Nat), .int (b : Nat)]) D = some (.bool (rc (a, b))) := fun a b => by
    obtain ⟨o, h1, h2⟩ := hs (a, b)
    have h1 : lookD D (.tuple [.int (a : Nat), .int (b : Nat)]) = some o := h1
    unfold gInD
    rw [h1, Option.map_some, ← h2]
    rfl
  have few := bx.few
  unfold m__paper
  refine m_fnP rfl ?_
  unfold b__paper
  refine s_seq ?_
  refine s_set ?_
  refine e_l ?_
  refine f_lc_pure (fun _ => true) (fun d => .int (if rc (0, natOf d) = true then -tn else 0)) ?_
  refine f_r1 ?_
  refine e_b ?_
  refine a_cons ?_
  refine e_var (d := tD T) rfl ?_
  refine a_nil ?_
  have lenT : gLen [tD T] = some (.int (R : Nat)) := by
    show some (PyData.int ((T.map rowD).length : Nat)) = _
    rw [List.length_map, bx.rows]
  refine gd lenT ⟨_, rfl, by omega, by omega, rfl, ?_, fun d hd => ⟨?_, fun _ => ?_⟩, ?_⟩
  · rw [rng0, List.length_map, List.length_range]
    exact Nat.lt_of_le_of_lt (show R ≤ 6 by omega) (by decide)
  · exact t_yes ⟨rfl, rfl⟩
  · rw [rng0] at hd
    obtain ⟨a, _, rfl⟩ := List.mem_map.mp hd
    refine e_if ?_
    refine t_tst ?_
    refine e_op ?_
    refine e_tup ?_
    refine a_cons ?_
    refine e_c ?_
    refine a_cons ?_
    refine e_var (d := .int (a : Nat)) rfl ?_
    refine a_nil ?_
    refine ⟨Nat.le_of_ble_eq_true rfl, ?_⟩
    refine e_var (d := D) rfl ?_
    refine gd (look 0 a) ⟨_, rfl, ?_⟩
    show _ ∨ _
    have e : natOf (.int (a : Nat)) = a := Int.toNat_natCast a
    rw [e]
    cases rc (0, a) with
    | true =>
      refine .inl ⟨rfl, ?_⟩
      refine e_un ?_
      refine e_var (d := .int tn) rfl ?_
      exact gd (a := .int (-tn)) rfl ⟨rfl, rfl⟩
    | false =>
      refine .inr ⟨rfl, ?_⟩
      exact e_c ⟨rfl, rfl⟩
  · rw [List.filter_eq_self.mpr (fun _ _ => rfl)]
    have e1 : (rng 0 (R : Int)).map (fun d => PyData.int (if rc (0, natOf d) = true then -tn else 0)) = (rowsP rc tn R).map .int := by
      rw [rng0]
      unfold rowsP
      rw [List.map_map, List.map_map]
      refine List.map_congr_left fun a _ => ?_
      show PyData.int (if rc (0, ((a : Int)).toNat) = true then -tn else 0) = _
      rw [Int.toNat_natCast]
      rfl
    rw [e1]
    refine s_seq ?_
    refine s_set ?_
    refine e_l ?_
    refine f_lc_pure (fun _ => true) (fun d => .int (if rc (1, natOf d) = true then tn else 0)) ?_
    refine f_r1 ?_
    refine e_b ?_
    refine a_cons ?_
    refine e_op ?_
    refine e_var (d := tD T) rfl ?_
    refine e_c ?_
    have h1 : 0 < T.length := by rw [bx.rows]; omega
    refine gd (ix_nat (k := 0) (d := rowD T[0]) (by rw [List.getElem?_map, List.getElem?_eq_getElem h1]; rfl)) ?_
    refine a_nil ?_
    have lenR : gLen [rowD T[0]] = some (.int (C : Nat)) := by
      show some (PyData.int (((T[0]).map PyData.int).length : Nat)) = _
      rw [List.length_map, bx.cols _ (List.getElem_mem h1)]
    refine gd lenR ⟨_, rfl, by omega, by omega, rfl, ?_, fun d hd => ⟨?_, fun _ => ?_⟩, ?_⟩
    · rw [rng0, List.length_map, List.length_range]
      exact Nat.lt_of_le_of_lt (show C ≤ 6 by omega) (by decide)
    · exact t_yes ⟨rfl, rfl⟩
    · rw [rng0] at hd
      obtain ⟨a, _, rfl⟩ := List.mem_map.mp hd
      refine e_if ?_
      refine t_tst ?_
      refine e_op ?_
      refine e_tup ?_
      refine a_cons ?_
      refine e_c ?_
      refine a_cons ?_
      refine e_var (d := .int (a : Nat)) rfl ?_
      refine a_nil ?_
      refine ⟨Nat.le_of_ble_eq_true rfl, ?_⟩
      refine e_var (d := D) rfl ?_
      refine gd (look 1 a) ⟨_, rfl, ?_⟩
      show _ ∨ _
      have e : natOf (.int (a : Nat)) = a := Int.toNat_natCast a
      rw [e]
      cases rc (1, a) with
      | true =>
        refine .inl ⟨rfl, ?_⟩
        exact e_var (d := .int tn) rfl ⟨rfl, rfl⟩
      | false =>
        refine .inr ⟨rfl, ?_⟩
        exact e_c ⟨rfl, rfl⟩
    · rw [List.filter_eq_self.mpr (fun _ _ => rfl)]
      have e2 : (rng 0 (C : Int)).map (fun d => PyData.int (if rc (1, natOf d) = true then tn else 0)) = (colsP rc tn C).map .int := by
        rw [rng0]
        unfold colsP
        rw [List.map_map, List.map_map]
        refine List.map_congr_left fun a _ => ?_
        show PyData.int (if rc (1, ((a : Int)).toNat) = true then tn else 0) = _
        rw [Int.toNat_natCast]
        rfl
      rw [e2]
      refine s_ret ?_
      refine e_tup ?_
      refine a_cons ?_
      refine e_b ?_
      refine a_cons ?_
      refine e_var (d := .list ((rowsP rc tn R).map .int)) rfl ?_
      refine a_nil ?_
      refine gd (a := rowD (rowsP rc tn R)) rfl ?_
      refine a_cons ?_
      refine e_b ?_
      refine a_cons ?_
      refine e_var (d := .list ((colsP rc tn C).map .int)) rfl ?_
      refine a_nil ?_
      refine gd (a := rowD (colsP rc tn C)) rfl ?_
      refine a_nil ?_
      exact ⟨Nat.le_of_ble_eq_true rfl, rfl⟩
end K70

/-! one bound, whole -/
namespace K70
open PySem PySem.Spec PyProof.Rows L2 Dl
theorem ne_pl (a b : Pl) : gNe (plD a) (plD b) = some (.bool (decide (a ≠ b))) := by
  show some (PyData.bool (!(((a.1 : Int) == (b.1 : Int)) && (((a.2 : Int) == (b.2 : Int)) && true)))) = _
  congr 2
  by_cases e : a = b
  · subst e; simp
  · rw [decide_eq_true e]
    by_cases e1 : a.1 = b.1
    · have e2 : a.2 ≠ b.2 := fun z => e (Prod.ext e1 z)
      have : ((a.2 : Int) == (b.2 : Int)) = false := by rw [beq_eq_false_iff_ne]; omega
      rw [this]; simp
    · have : ((a.1 : Int) == (b.1 : Int)) = false := by rw [beq_eq_false_iff_ne]; omega
      rw [this]; simp
/-- what the paper is made of -/
def Pp (T : Tb) (h : List Pl) (place : Pl) (tn : Int) (rc : Pl → Bool) : Prop :=
  (tn = -1 ∧ cell T place = 0 ∧ ∀ l, rc l = false) ∨ (rc (bgOf place tn) = true ∧ rc (goOf place tn) = false ∧ ∀ p ∈ h, p ≠ place → (rc (0, p.1) = true → rc (1, p.2) = true) ∧ (rc (1, p.2) = true → 0 < cell T p → rc (0, p.1) = true))
theorem reach_pp {T : Tb} {h oth : List Pl} {place : Pl} {tn : Int} {cm : Cm} (ho : ∀ p, p ∈ oth ↔ p ∈ h ∧ p ≠ place) (re : Reach T oth (bgOf place tn) cm) (hg : goOf place tn ∉ keys cm) : Pp T h place tn fun l => decide (l ∈ keys cm) := by
  refine .inr ⟨decide_eq_true re.fo.bg_in, decide_eq_false hg, fun p hp np => ⟨fun z => ?_, fun z hc => ?_⟩⟩
  · refine decide_eq_true (re.closed _ (of_decide_eq_true z) _ ?_)
    unfold behind
    rw [if_pos rfl]
    exact List.mem_map.mpr ⟨p, List.mem_filter.mpr ⟨(ho p).mpr ⟨hp, np⟩, decide_eq_true rfl⟩, rfl⟩
  · refine decide_eq_true (re.closed _ (of_decide_eq_true z) _ ?_)
    unfold behind
    rw [if_neg (show ¬ ((1, p.2) : Pl).1 = 0 from Nat.one_ne_zero)]
    exact List.mem_map.mpr ⟨p, List.mem_filter.mpr ⟨(ho p).mpr ⟨hp, np⟩, by rw [Bool.and_eq_true]; exact ⟨decide_eq_true rfl, decide_eq_true hc⟩⟩, rfl⟩
theorem bound_ok {T0 : Tb} {R C : Nat} (bx : Box T0 R C) {h : List Pl} {place : Pl} {tn : Int} (s : Sc T0 R C h (h.filter fun p => decide (p ≠ place)) place tn) : Gd (m__bound [tD T0, hD h, plD place, .int tn]) fun q => ∃ (T : Tb) (rc : Pl → Bool), q = .tuple [.int (cell T place), tD T, paperD rc tn R C] ∧ Rd T0 R C h T ∧ Pp T h place tn rc := by
  have ho : ∀ p ∈ h.filter fun p => decide (p ≠ place), In R C p := fun p hp => s.hin p ((s.oth_ p).mp hp).1
  have hp := s.hin place s.at_
  have rd0 : Rd T0 R C h T0 := ⟨bx, fun _ => rfl, fun _ => rfl, fun _ _ _ => rfl⟩
  unfold m__bound
  refine m_fnP rfl ?_
  unfold b__bound
  refine s_seq ?_
  refine s_set ?_
  refine e_l ?_
  refine f_lc_pure (fun d => match d with | .tuple [.int a, .int b] => decide (((a.toNat, b.toNat) : Pl) ≠ place) | _ => false) id ?_
  refine f_itA ?_
  refine e_var (d := hD h) rfl ?_
  refine .inl ⟨_, .inr rfl, rfl, ?_, fun d hd => ?_, ?_⟩
  · rw [List.length_map]
    exact Nat.lt_of_le_of_lt s.few (by decide)
  · obtain ⟨p, _, rfl⟩ := List.mem_map.mp hd
    refine ⟨?_, fun _ => ?_⟩
    · refine t_tst ?_
      refine e_op ?_
      refine e_var (d := plD p) rfl ?_
      refine e_var (d := plD place) rfl ?_
      refine gd (ne_pl p place) ⟨_, rfl, ?_, rfl⟩
      show _ = decide (((((p.1 : Nat) : Int).toNat, ((p.2 : Nat) : Int).toNat) : Pl) ≠ place)
      rw [Int.toNat_natCast, Int.toNat_natCast]
    · exact e_var (d := plD p) rfl ⟨rfl, rfl⟩
  · have e : ((h.map plD).filter (fun d => match d with | .tuple [.int a, .int b] => decide (((a.toNat, b.toNat) : Pl) ≠ place) | _ => false)).map id = (h.filter fun p => decide (p ≠ place)).map plD := by
      rw [List.map_id, List.filter_map]
      congr 1
    rw [e]
    refine s_seq ?_
    refine s_asg ?_
    refine e_if ?_
    refine t_tst ?_
    refine e_op ?_
    refine e_var (d := .int tn) rfl ?_
    refine e_c ?_
    refine gd (eq_int tn (-1)) ⟨_, rfl, ?_⟩
    have fin : ∀ {st : Sl} {d : PyData}, st = [.dat (tD T0), .dat (hD h), .dat (plD place), .dat (.int tn), .dat (lD (h.filter fun p => decide (p ≠ place))), .no, .no, .no, .no, .no, .no, .no] → d = .tuple [plD (bgOf place tn), plD (goOf place tn)] → True := fun _ _ => trivial
    have two : ∀ {Q : PyData → Sl → Prop} {st : Sl}, st[2]? = some (.dat (plD place)) → Q (.tuple [plD (bgOf place tn), plD (goOf place tn)]) st → ((tn == -1) = true ∧ Ge (dTup (aCons (dTup (aCons (dC (.int 0)) (aCons (dOp gIx (dVar 2) (dC (.int 0))) aNil))) (aCons (dTup (aCons (dC (.int 1)) (aCons (dOp gIx (dVar 2) (dC (.int 1))) aNil))) aNil)) st) Q) ∨ ((tn == -1) = false ∧ Ge (dTup (aCons (dTup (aCons (dC (.int 1)) (aCons (dOp gIx (dVar 2) (dC (.int 1))) aNil))) (aCons (dTup (aCons (dC (.int 0)) (aCons (dOp gIx (dVar 2) (dC (.int 0))) aNil))) aNil)) st) Q) := fun {Q st} hv k => by
      have l0 : ∀ {Q : PyData → Sl → Prop}, Q (plD (0, place.1)) st → Ge (dTup (aCons (dC (.int 0)) (aCons (dOp gIx (dVar 2) (dC (.int 0))) aNil)) st) Q := fun {Q} k => by
        refine e_tup ?_
        refine a_cons ?_
        refine e_c ?_
        refine a_cons ?_
        refine e_op ?_
        refine e_var hv ?_
        refine e_c ?_
        refine gd (pl_0 place) ?_
        refine a_nil ?_
        exact ⟨Nat.le_of_ble_eq_true rfl, k⟩
      have l1 : ∀ {Q : PyData → Sl → Prop}, Q (plD (1, place.2)) st → Ge (dTup (aCons (dC (.int 1)) (aCons (dOp gIx (dVar 2) (dC (.int 1))) aNil)) st) Q := fun {Q} k => by
        refine e_tup ?_
        refine a_cons ?_
        refine e_c ?_
        refine a_cons ?_
        refine e_op ?_
        refine e_var hv ?_
        refine e_c ?_
        refine gd (pl_1 place) ?_
        refine a_nil ?_
        exact ⟨Nat.le_of_ble_eq_true rfl, k⟩
      rcases s.tn_ with e | e
      · refine .inr ⟨by rw [e]; rfl, ?_⟩
        refine e_tup ?_
        refine a_cons (l1 (a_cons (l0 (a_nil ⟨Nat.le_of_ble_eq_true rfl, ?_⟩))))
        have b : bgOf place tn = (1, place.2) := by unfold bgOf; rw [if_neg (by omega)]
        have g : goOf place tn = (0, place.1) := by unfold goOf; rw [if_neg (by omega)]
        rw [b, g] at k
        exact k
      · refine .inl ⟨by rw [e]; rfl, ?_⟩
        refine e_tup ?_
        refine a_cons (l0 (a_cons (l1 (a_nil ⟨Nat.le_of_ble_eq_true rfl, ?_⟩))))
        have b : bgOf place tn = (0, place.1) := by unfold bgOf; rw [if_pos e]
        have g : goOf place tn = (1, place.2) := by unfold goOf; rw [if_pos e]
        rw [b, g] at k
        exact k
    refine two rfl ?_
    refine gd rfl ?_
    refine s_seq ?_
    refine s_set ?_
    refine e_var (d := tD T0) rfl ?_
    refine s_seq ?_
    refine s_set ?_
    refine e_call ?_
    refine a_cons ?_
    refine e_var (d := tD T0) rfl ?_
    refine a_cons ?_
    refine e_var (d := lD (h.filter fun p => decide (p ≠ place))) rfl ?_
    refine a_cons ?_
    refine e_var (d := plD (bgOf place tn)) rfl ?_
    refine a_nil ?_
    refine gd_mono (reached_ok bx ho s.lo s.bg) fun q hq => ?_
    obtain ⟨cm, rfl, re⟩ := hq
    refine s_seq ?_
    refine s_set ?_
    refine e_call ?_
    refine a_cons ?_
    refine e_var (d := tD T0) rfl ?_
    refine a_cons ?_
    refine e_var (d := plD place) rfl ?_
    refine a_cons ?_
    refine e_var (d := .int tn) rfl ?_
    refine a_cons ?_
    refine e_var (d := cameD cm) rfl ?_
    refine a_cons ?_
    refine e_var (d := plD (goOf place tn)) rfl ?_
    refine a_nil ?_
    refine gd_mono (most_any s bx re.fo) fun q hq => ?_
    obtain ⟨m, rfl, mo⟩ := hq
    show Gs (sSeq whileB _ (BS T0 h (h.filter fun p => decide (p ≠ place)) place tn T0 cm m)) _ _
    refine s_seq ?_
    refine while_ok s rd0 re mo fun T cm m rd re fi => ?_
    obtain ⟨rr, g1, g2⟩ := row_ix rd.box hp
    have tail : ∀ {D : PyData} {rc : Pl → Bool} {st : Sl}, st = BS T0 h (h.filter fun p => decide (p ≠ place)) place tn T cm m → Has D rc → Pp T h place tn rc → True := fun _ _ _ => trivial
    have look : gInD false (plD (goOf place tn)) (cameD cm) = some (.bool (decide (goOf place tn ∈ keys cm))) := by
      obtain ⟨o, h1, h2⟩ := has_came cm (goOf place tn)
      unfold gInD
      rw [h1, Option.map_some]
      exact congrArg (fun b => some (PyData.bool b)) h2
    have done : ∀ {rc : Pl → Bool}, Pp T h place tn rc → Gs (sRet (dTup (aCons (dOp gIx (dOp gIx (dVar 8) (dOp gIx (dVar 2) (dC (.int 0)))) (dOp gIx (dVar 2) (dC (.int 1)))) (aCons (dVar 8) (aCons (dVar 11) aNil)))) ((BS T0 h (h.filter fun p => decide (p ≠ place)) place tn T cm m).set 11 (.dat (paperD rc tn R C)))) (fun _ => ∃ (T : Tb) (rc : Pl → Bool), PyData.none = .tuple [.int (cell T place), tD T, paperD rc tn R C] ∧ Rd T0 R C h T ∧ Pp T h place tn rc) fun d _ => ∃ (T : Tb) (rc : Pl → Bool), d = .tuple [.int (cell T place), tD T, paperD rc tn R C] ∧ Rd T0 R C h T ∧ Pp T h place tn rc := fun {rc} pp => by
      refine s_ret ?_
      refine e_tup ?_
      refine a_cons ?_
      refine e_op ?_
      refine e_op ?_
      refine e_var (d := tD T) rfl ?_
      refine e_op ?_
      refine e_var (d := plD place) rfl ?_
      refine e_c ?_
      refine gd (pl_0 place) ?_
      refine gd g1 ?_
      refine e_op ?_
      refine e_var (d := plD place) rfl ?_
      refine e_c ?_
      refine gd (pl_1 place) ?_
      refine gd g2 ?_
      refine a_cons ?_
      refine e_var (d := tD T) rfl ?_
      refine a_cons ?_
      refine e_var (d := paperD rc tn R C) rfl ?_
      refine a_nil ?_
      exact ⟨Nat.le_of_ble_eq_true rfl, T, rc, rfl, rd, pp⟩
    refine s_seq ?_
    refine s_set ?_
    refine e_call ?_
    refine a_cons ?_
    refine e_var (d := tD T) rfl ?_
    refine a_cons ?_
    refine e_if ?_
    refine t_tst ?_
    refine e_op ?_
    refine e_var (d := plD (goOf place tn)) rfl ?_
    refine e_var (d := cameD cm) rfl ?_
    refine gd look ⟨_, rfl, ?_⟩
    by_cases hg : goOf place tn ∈ keys cm
    · refine .inl ⟨decide_eq_true hg, ?_⟩
      refine e_c ?_
      refine a_cons ?_
      refine e_var (d := .int tn) rfl ?_
      refine a_nil ?_
      refine gd_mono (paper_ok rd.box has_none tn) fun q hq => ?_
      subst hq
      rcases fi with z | z
      · exact absurd hg z
      · exact done (.inl ⟨z.1, z.2, fun _ => rfl⟩)
    · refine .inr ⟨decide_eq_false hg, ?_⟩
      refine e_var (d := cameD cm) rfl ?_
      refine a_cons ?_
      refine e_var (d := .int tn) rfl ?_
      refine a_nil ?_
      refine gd_mono (paper_ok rd.box (has_came cm) tn) fun q hq => ?_
      subst hq
      exact done (reach_pp s.oth_ re hg)
end K70

/-! what the paper says -/
namespace K70
open PySem PySem.Spec PyProof.Rows L2 Dl
def rw_ (rc : Pl → Bool) (tn : Int) (r : Nat) : Int := if rc (0, r) = true then -tn else 0
def cw_ (rc : Pl → Bool) (tn : Int) (c : Nat) : Int := if rc (1, c) = true then tn else 0
theorem at_place {T : Tb} {h : List Pl} {place : Pl} {tn : Int} {rc : Pl → Bool} (ht : tn = 1 ∨ tn = -1) (pp : Pp T h place tn rc) : (rw_ rc tn place.1 + cw_ rc tn place.2) * cell T place = cell T place ∧ ((rw_ rc tn place.1 + cw_ rc tn place.2) - 1) * (-tn) ≤ 0 := by
  unfold rw_ cw_
  rcases pp with ⟨e, z, n⟩ | ⟨b, g, _⟩
  · rw [n, n, z, e]
    exact ⟨rfl, by decide⟩
  · rcases ht with rfl | rfl
    · have b' : rc (1, place.2) = true := b
      have g' : rc (0, place.1) = false := g
      rw [b', g']
      simp
    · have b' : rc (0, place.1) = true := b
      have g' : rc (1, place.2) = false := g
      rw [b', g']
      simp
theorem at_other {T : Tb} {h : List Pl} {place : Pl} {tn : Int} {rc : Pl → Bool} (ht : tn = 1 ∨ tn = -1) (pp : Pp T h place tn rc) {p : Pl} (hp : p ∈ h) (np : p ≠ place) (pos : 0 ≤ cell T p) : (rw_ rc tn p.1 + cw_ rc tn p.2) * cell T p = 0 ∧ (rw_ rc tn p.1 + cw_ rc tn p.2) * (-tn) ≤ 0 := by
  unfold rw_ cw_
  rcases pp with ⟨e, z, n⟩ | ⟨b, g, k⟩
  · rw [n, n, e]
    exact ⟨by simp, by decide⟩
  · obtain ⟨k1, k2⟩ := k p hp np
    cases h0 : rc (0, p.1) with
    | true =>
      rw [k1 h0]
      refine ⟨?_, ?_⟩
      · simp only [if_true]
        rw [show -tn + tn = 0 from by omega, Int.zero_mul]
      · simp only [if_true]
        rw [show -tn + tn = 0 from by omega, Int.zero_mul]
        exact Int.le_refl _
    | false =>
      cases h1 : rc (1, p.2) with
      | false => simp
      | true =>
        have z : cell T p = 0 := by
          by_cases c : 0 < cell T p
          · have := k2 h1 c
            rw [h0] at this
            cases this
          · omega
        rw [z]
        refine ⟨Int.mul_zero _, ?_⟩
        rcases ht with rfl | rfl <;> simp
theorem sum_zero (f : Pl → Int) : ∀ h : List Pl, (∀ p ∈ h, f p = 0) → (h.map f).sum = 0
  | [], _ => rfl
  | p :: r, k => by rw [List.map_cons, List.sum_cons, k p List.mem_cons_self, sum_zero f r fun q hq => k q (List.mem_cons_of_mem _ hq)]; rfl
theorem sum_one (f : Pl → Int) (a : Pl) : ∀ h : List Pl, h.Nodup → a ∈ h → (∀ p ∈ h, p ≠ a → f p = 0) → (h.map f).sum = f a
  | p :: r, nd, ha, k => by
    have nd' := List.nodup_cons.mp nd
    rw [List.map_cons, List.sum_cons]
    by_cases e : p = a
    · subst e
      rw [sum_zero f r fun q hq => k q (List.mem_cons_of_mem _ hq) fun z => nd'.1 (by rw [← z]; exact hq), Int.add_zero]
    · rw [k p List.mem_cons_self e, Int.zero_add]
      exact sum_one f a r nd'.2 ((List.mem_cons.mp ha).resolve_left fun z => e z.symm) fun q hq => k q (List.mem_cons_of_mem _ hq)
/-- what the paper adds up to over the hidden places is the place's own count -/
theorem slack {T : Tb} {R C : Nat} (bx : Box T R C) {h : List Pl} {place : Pl} {tn : Int} {rc : Pl → Bool} (ht : tn = 1 ∨ tn = -1) (pp : Pp T h place tn rc) (hin : ∀ p ∈ h, In R C p) (nd : h.Nodup) (ha : place ∈ h) : (h.map fun p => (rw_ rc tn p.1 + cw_ rc tn p.2) * cell T p).sum = cell T place := by
  rw [sum_one _ place h nd ha fun p hp np => (at_other ht pp hp np (box_cell bx (hin p hp)).1).1]
  exact (at_place ht pp).1
end K70

/-! what is handed in is looked at -/
namespace K70
open PySem PySem.Spec PyProof.Rows L2 Dl
local macro_rules | `(tactic| decreasing_trivial_pre_omega) => `(tactic| (first | with_reducible refine s_seq ?_ | with_reducible refine s_if ?_ | with_reducible refine s_set ?_ | with_reducible refine s_setIx ?_ | with_reducible refine s_ret ?_ | with_reducible refine s_nil ?_ | with_reducible refine s_own ?_ | with_reducible refine s_par ?_ | with_reducible refine t_tst ?_ | with_reducible refine t_and ?_ | with_reducible refine t_or ?_ | with_reducible refine t_not ?_ | with_reducible refine t_yes ?_ | with_reducible refine e_op ?_ | with_reducible refine e_un ?_ | with_reducible refine e_chain ?_ | with_reducible refine e_b ?_ | with_reducible refine e_c ?_ | with_reducible refine e_l ?_ | with_reducible refine e_tup ?_ | with_reducible refine e_call ?_ | with_reducible refine e_and ?_ | with_reducible refine e_or ?_ | with_reducible refine e_not ?_ | with_reducible refine e_if ?_ | with_reducible refine e_sl ?_ | with_reducible refine o_n ?_ | with_reducible refine o_s ?_ | with_reducible refine a_nil ?_ | with_reducible refine a_cons ?_ | with_reducible refine f_lst ?_ | with_reducible refine f_call ?_ | with_reducible refine f_itA ?_ | with_reducible refine f_r1 ?_ | with_reducible refine r_seq ?_ | with_reducible refine n_add ?_ | with_reducible refine n_sub ?_ | with_reducible refine n_gt ?_ | with_reducible refine n_ge ?_ | with_reducible refine n_lt ?_ | with_reducible refine n_le ?_ | with_reducible refine e_var (by with_unfolding_all rfl) ?_ | with_reducible refine e_ixc (by with_unfolding_all rfl) ?_ | with_reducible refine e_callM (by with_unfolding_all rfl) ?_ | with_reducible refine s_frz (by with_unfolding_all rfl) ?_ | with_reducible refine s_app (by with_unfolding_all rfl) ?_ | with_reducible refine few_and (by first | decide | (simp only [List.length_cons, List.length_nil, Nat.reduceAdd, Nat.reduceLeDiff])) ?_ | refine Or.inl ⟨by first | with_reducible rfl | with_reducible exact Bool.not_false, ?_⟩ | refine Or.inr ⟨by first | with_reducible rfl | with_reducible exact Bool.not_true, ?_⟩ | refine Exists.intro _ (Exists.intro _ ⟨rfl, rfl, gd rfl ?_⟩) | refine Exists.intro _ ⟨rfl, ?_⟩))
local macro_rules | `(tactic| decreasing_trivial) => `(tactic| repeat decreasing_trivial_pre_omega)
structure Gx (o : Option Fx) (N : Sl → Prop) (R : PyData → Sl → Prop) (E : Str → Prop) : Prop where
  ex : (∃ s, o = some (.fl (.nx s)) ∧ N s) ∨ (∃ d s, o = some (.fl (.rt d s)) ∧ R d s) ∨ ∃ c s, o = some (.ex c s) ∧ E c
section
variable {N : Sl → Prop} {R : PyData → Sl → Prop} {E : Str → Prop} {s : Sl} {f g : DSx} {fs : DS} {t : DT} {ga : DA}
theorem x_up (h : Gs (fs s) N R) : Gx (xsUp fs s) N R E := by
  obtain ⟨⟨s1, e, k⟩ | ⟨d, s1, e, k⟩⟩ := h
  · exact ⟨.inl ⟨s1, by unfold xsUp; rw [e]; rfl, k⟩⟩
  · exact ⟨.inr (.inl ⟨d, s1, by unfold xsUp; rw [e]; rfl, k⟩)⟩
theorem x_seq (h : Gx (f s) (fun s1 => Gx (g s1) N R E) R E) : Gx (xsSeq f g s) N R E := by
  obtain ⟨⟨s1, e, h⟩ | ⟨d, s1, e, h⟩ | ⟨c, s1, e, h⟩⟩ := h
  · have q : xsSeq f g s = g s1 := by unfold xsSeq; rw [e]; rfl
    rw [q]; exact h
  · exact ⟨.inr (.inl ⟨d, s1, by unfold xsSeq; rw [e]; rfl, h⟩)⟩
  · exact ⟨.inr (.inr ⟨c, s1, by unfold xsSeq; rw [e]; rfl, h⟩)⟩
theorem x_if (h : Ge (t s) fun b s1 => (b = true ∧ Gx (f s1) N R E) ∨ (b = false ∧ Gx (g s1) N R E)) : Gx (xsIf t f g s) N R E := by
  obtain ⟨b, s1, e, ⟨rfl, h⟩ | ⟨rfl, h⟩⟩ := h
  · have q : xsIf t f g s = f s1 := by unfold xsIf; rw [e]; simp
    rw [q]; exact h
  · have q : xsIf t f g s = g s1 := by unfold xsIf; rw [e]; simp
    rw [q]; exact h
theorem x_raise {c : Str} (k : E c) : Gx (xsRaise c s) N R E := ⟨.inr (.inr ⟨c, s, rfl, k⟩)⟩
theorem x_drop {m : List PyData → Option (Rx PyData)} (h : Ge (ga s) fun ds s1 => Gd (m ds) fun r => (∃ d, r = .ok d ∧ N s1) ∨ ∃ c, r = .ex c ∧ E c) : Gx (xsDrop (xCall m ga) s) N R E := by
  obtain ⟨ds, s1, e, r, e2, ⟨d, rfl, k⟩ | ⟨c, rfl, k⟩⟩ := h
  · exact ⟨.inl ⟨s1, by unfold xsDrop xCall; rw [e, Option.bind_some, e2]; rfl, k⟩⟩
  · exact ⟨.inr (.inr ⟨c, s1, by unfold xsDrop xCall; rw [e, Option.bind_some, e2]; rfl, k⟩)⟩
theorem m_fnX {M : List Str} {n : Nat} {b : DSx} {ds : List PyData} {q : Rx PyData → Prop} (l : ds.length = n) (h : Gx (b (startS M ds)) (fun _ => q (.ok .none)) (fun d _ => q (.ok d)) fun c => q (.ex c)) : Gd (fnX M n b ds) q := by
  obtain ⟨⟨s1, e, k⟩ | ⟨d, s1, e, k⟩ | ⟨c, s1, e, k⟩⟩ := h
  · exact ⟨_, by unfold fnX; rw [if_pos l, e]; rfl, k⟩
  · exact ⟨_, by unfold fnX; rw [if_pos l, e]; rfl, k⟩
  · exact ⟨_, by unfold fnX; rw [if_pos l, e]; rfl, k⟩
theorem ok_gd {m : List PyData → Option (Rx PyData)} {ds : List PyData} {d : PyData} {D : PyData → Prop} (h : Gd (m ds) fun r => r = .ok d) (k : D d) : Gd (okOf m ds) D := by
  obtain ⟨r, e, rfl⟩ := h
  exact ⟨d, by unfold okOf; rw [e], k⟩
end

section
variable {ga : DA}
theorem a_star {fa : DE} {QA : List PyData → Sl → Prop} {s : Sl} (h : Ge (fa s) fun a s1 => ∃ ds, (a = .list ds ∨ a = .tuple ds) ∧ Ge (ga s1) fun r s2 => QA (ds ++ r) s2) : Ge (aStar fa ga s) QA := by
  obtain ⟨a, s1, e1, ds, rfl | rfl, r, s2, e2, k⟩ := h
  · exact ⟨_, s2, by unfold aStar; rw [e1, Option.bind_some]; simp only [e2, Option.map_some], k⟩
  · exact ⟨_, s2, by unfold aStar; rw [e1, Option.bind_some]; simp only [e2, Option.map_some], k⟩

end
theorem whole_ok (i : Int) : Gd (m_is_whole [.int i]) fun r => r = .bool true := by
  unfold m_is_whole
  refine m_fnP rfl ?_
  unfold b_is_whole
  decreasing_trivial
  refine gd (a := .bool true) rfl ?_
  decreasing_trivial
  refine gd (a := .bool false) rfl ?_
  decreasing_trivial
  rfl
theorem all_true (l : List PyData) : gAll [.list (l.map fun _ => .bool true)] = some (.bool true) := by
  show (truths _).map _ = _
  have : truths (l.map fun _ => PyData.bool true) = some (l.map fun _ => true) := by
    induction l with
    | nil => rfl
    | cons a r ih => show (truths (r.map fun _ => PyData.bool true)).map _ = _; rw [ih]; rfl
  rw [this]
  simp
theorem is_row_ok {r : List Int} {C : Nat} (l : r.length = C) (few : 1 ≤ C ∧ C ≤ 6) (hr : ∀ x ∈ r, 0 ≤ x ∧ x ≤ 1000000000) : Gd (m__is_row [rowD r]) fun q => q = .bool true := by
  unfold m__is_row
  refine m_fnP rfl ?_
  unfold b__is_row
  have len : gLen [rowD r] = some (.int (C : Nat)) := by
    show some (PyData.int ((r.map PyData.int).length : Nat)) = _
    rw [List.length_map, l]
  decreasing_trivial
  refine gd (a := .bool true) rfl ?_
  decreasing_trivial
  refine gd len ?_
  decreasing_trivial
  refine .inl ⟨congrArg PyData.bool (decide_eq_true (by omega)), ?_⟩
  decreasing_trivial
  have c6 : (C : Int) ≤ 6 := by omega
  refine .inr ⟨by rw [decide_eq_true c6]; rfl, ?_⟩
  decreasing_trivial
  refine f_lc_pure (fun _ => true) (fun _ => .bool true) ?_
  refine f_itA ?_
  refine e_var (d := rowD r) rfl ?_
  refine .inl ⟨_, .inr rfl, rfl, by rw [List.length_map, l]; exact Nat.lt_of_le_of_lt few.2 (by decide), fun d hd => ⟨t_yes ⟨rfl, rfl⟩, fun _ => ?_⟩, ?_⟩
  · obtain ⟨x, hx, rfl⟩ := List.mem_map.mp hd
    have b := hr x hx
    refine e_and ?_
    refine e_call ?_
    refine a_cons ?_
    refine e_var (d := .int x) rfl ?_
    refine a_nil ?_
    refine gd_mono (whole_ok x) fun q hq => ?_
    subst hq
    refine ⟨_, rfl, .inl ⟨rfl, ?_⟩⟩
    refine e_chain ?_
    refine e_c ?_
    refine e_var (d := .int x) rfl ?_
    refine gd (a := .bool true) (by show some (PyData.bool (decide ((0 : Int) ≤ x))) = _; rw [decide_eq_true b.1]) (.inl ⟨rfl, ?_⟩)
    refine e_c ?_
    exact gd (a := .bool true) (by show some (PyData.bool (decide (x ≤ (1000000000 : Int)))) = _; rw [decide_eq_true b.2]) ⟨rfl, rfl⟩
  · rw [List.filter_eq_self.mpr (fun _ _ => rfl)]
    refine a_nil ?_
    exact gd (all_true _) rfl
end K70

/-! the counts are looked at -/
namespace K70
open PySem PySem.Spec PyProof.Rows L2 Dl
local macro_rules | `(tactic| decreasing_trivial_pre_omega) => `(tactic| (first | with_reducible refine s_seq ?_ | with_reducible refine s_if ?_ | with_reducible refine s_set ?_ | with_reducible refine s_setIx ?_ | with_reducible refine s_ret ?_ | with_reducible refine s_nil ?_ | with_reducible refine s_own ?_ | with_reducible refine s_par ?_ | with_reducible refine t_tst ?_ | with_reducible refine t_and ?_ | with_reducible refine t_or ?_ | with_reducible refine t_not ?_ | with_reducible refine t_yes ?_ | with_reducible refine e_op ?_ | with_reducible refine e_un ?_ | with_reducible refine e_chain ?_ | with_reducible refine e_b ?_ | with_reducible refine e_c ?_ | with_reducible refine e_l ?_ | with_reducible refine e_tup ?_ | with_reducible refine e_call ?_ | with_reducible refine e_and ?_ | with_reducible refine e_or ?_ | with_reducible refine e_not ?_ | with_reducible refine e_if ?_ | with_reducible refine e_sl ?_ | with_reducible refine o_n ?_ | with_reducible refine o_s ?_ | with_reducible refine a_nil ?_ | with_reducible refine a_cons ?_ | with_reducible refine f_lst ?_ | with_reducible refine f_call ?_ | with_reducible refine f_itA ?_ | with_reducible refine f_r1 ?_ | with_reducible refine r_seq ?_ | with_reducible refine n_add ?_ | with_reducible refine n_sub ?_ | with_reducible refine n_gt ?_ | with_reducible refine n_ge ?_ | with_reducible refine n_lt ?_ | with_reducible refine n_le ?_ | with_reducible refine e_var (by with_unfolding_all rfl) ?_ | with_reducible refine e_ixc (by with_unfolding_all rfl) ?_ | with_reducible refine e_callM (by with_unfolding_all rfl) ?_ | with_reducible refine s_frz (by with_unfolding_all rfl) ?_ | with_reducible refine s_app (by with_unfolding_all rfl) ?_ | with_reducible refine few_and (by first | decide | (simp only [List.length_cons, List.length_nil, Nat.reduceAdd, Nat.reduceLeDiff])) ?_ | refine Or.inl ⟨by first | with_reducible rfl | with_reducible exact Bool.not_false, ?_⟩ | refine Or.inr ⟨by first | with_reducible rfl | with_reducible exact Bool.not_true, ?_⟩ | refine Exists.intro _ (Exists.intro _ ⟨rfl, rfl, gd rfl ?_⟩) | refine Exists.intro _ ⟨rfl, ?_⟩))
local macro_rules | `(tactic| decreasing_trivial) => `(tactic| repeat decreasing_trivial_pre_omega)
theorem check_counts_ok {T : Tb} {R C : Nat} (bx : Box T R C) (hi : ∀ r ∈ T, ∀ x ∈ r, x ≤ 1000000000) : Gd (m__check_counts [tD T]) fun q => q = .ok .none := by
  have few := bx.few
  unfold m__check_counts
  refine m_fnX rfl ?_
  unfold b__check_counts
  have len : gLen [tD T] = some (.int (R : Nat)) := by
    show some (PyData.int ((T.map rowD).length : Nat)) = _
    rw [List.length_map, bx.rows]
  have lt : (T.map rowD).length < sizeLine := by
    rw [List.length_map, bx.rows]
    exact Nat.lt_of_le_of_lt few.1.2 (by decide)
  refine x_seq ?_
  refine x_if ?_
  decreasing_trivial
  refine gd (a := .bool true) rfl ?_
  decreasing_trivial
  refine gd len ?_
  decreasing_trivial
  refine .inl ⟨congrArg PyData.bool (decide_eq_true (by omega)), ?_⟩
  decreasing_trivial
  have c6 : (R : Int) ≤ 6 := by omega
  refine .inr ⟨by rw [decide_eq_true c6]; rfl, ?_⟩
  decreasing_trivial
  refine f_lc_pure (fun _ => true) (fun _ => .bool true) ?_
  refine f_itA ?_
  refine e_var (d := tD T) rfl ?_
  refine .inl ⟨_, .inr rfl, rfl, lt, fun d hd => ⟨t_yes ⟨rfl, rfl⟩, fun _ => ?_⟩, ?_⟩
  · obtain ⟨r, hr, rfl⟩ := List.mem_map.mp hd
    refine e_call ?_
    refine a_cons ?_
    refine e_var (d := rowD r) rfl ?_
    refine a_nil ?_
    refine gd_mono (is_row_ok (bx.cols r hr) few.2 fun x hx => ⟨(bx.pos r hr x hx).1, hi r hr x hx⟩) fun q hq => ?_
    exact ⟨hq, rfl⟩
  · rw [List.filter_eq_self.mpr (fun _ _ => rfl)]
    refine a_nil ?_
    refine gd (all_true _) ⟨_, rfl, ?_⟩
    refine .inr ⟨rfl, x_up ?_⟩
    refine s_nil ?_
    refine x_if ?_
    refine t_not ?_
    refine t_tst ?_
    refine e_b ?_
    refine a_cons ?_
    refine e_l ?_
    refine f_lc_pure (fun _ => true) (fun _ => .bool true) ?_
    refine f_itA ?_
    refine e_var (d := tD T) rfl ?_
    have h1 : 0 < T.length := by rw [bx.rows]; omega
    refine .inl ⟨_, .inr rfl, rfl, lt, fun d hd => ⟨t_yes ⟨rfl, rfl⟩, fun _ => ?_⟩, ?_⟩
    · obtain ⟨r, hr, rfl⟩ := List.mem_map.mp hd
      have lr : ∀ r ∈ T, gLen [rowD r] = some (.int (C : Nat)) := fun r hr => by
        show some (PyData.int ((r.map PyData.int).length : Nat)) = _
        rw [List.length_map, bx.cols r hr]
      refine e_op ?_
      refine e_b ?_
      refine a_cons ?_
      refine e_var (d := rowD r) rfl ?_
      refine a_nil ?_
      refine gd (lr r hr) ?_
      refine e_b ?_
      refine a_cons ?_
      refine e_op ?_
      refine e_var (d := tD T) rfl ?_
      refine e_c ?_
      refine gd (ix_nat (k := 0) (d := rowD T[0]) (by rw [List.getElem?_map, List.getElem?_eq_getElem h1]; rfl)) ?_
      refine a_nil ?_
      refine gd (lr _ (List.getElem_mem h1)) ?_
      refine gd (eq_nat C C) ?_
      rw [decide_eq_true rfl]
      exact ⟨rfl, rfl⟩
    · rw [List.filter_eq_self.mpr (fun _ _ => rfl)]
      refine a_nil ?_
      refine gd (all_true _) ⟨_, rfl, ?_⟩
      exact .inr ⟨rfl, x_up (s_nil rfl)⟩
end K70

/-! ### whole numbers, and lists and tuples of them: compared, told as texts -/
namespace Dl
open PySem PySem.Spec PyProof.Rows L2
def Nu : Nat → PyData → Prop
  | _, .int i => i.natAbs < 2 ^ 200
  | _, .bool _ => True
  | k + 1, .list ds => ∀ d ∈ ds, Nu k d
  | k + 1, .tuple ds => ∀ d ∈ ds, Nu k d
  | _, _ => False
theorem nu_int {k : Nat} {i : Int} (h : i.natAbs < 2 ^ 200) : Nu k (.int i) := by cases k <;> exact h
theorem nu_small {k : Nat} {i : Int} (h0 : -1000000000000 ≤ i) (h : i ≤ 1000000000000) : Nu k (.int i) := nu_int (Nat.lt_of_le_of_lt (show i.natAbs ≤ 1000000000000 by omega) (by decide +kernel))
theorem nu_bool {k : Nat} (b : Bool) : Nu k (.bool b) := by cases k <;> exact trivial
theorem nu_tup {k : Nat} {ds : List PyData} (h : ∀ d ∈ ds, Nu k d) : Nu (k + 1) (.tuple ds) := h
theorem nu_lst {k : Nat} {ds : List PyData} (h : ∀ d ∈ ds, Nu k d) : Nu (k + 1) (.list ds) := h
theorem no_dcts_of : ∀ {ds : List PyData}, (∀ d ∈ ds, noDct d = true) → noDcts ds = true
  | [], _ => rfl
  | d :: r, h => by rw [noDcts, h d List.mem_cons_self, no_dcts_of fun e he => h e (List.mem_cons_of_mem _ he)]; rfl
theorem can_lays_of : ∀ {ds : List PyData}, (∀ d ∈ ds, d.canLay0 = true) → PyData.canLayAll0 ds = true
  | [], _ => by rw [PyData.canLayAll0]
  | d :: r, h => by rw [PyData.canLayAll0, h d List.mem_cons_self, can_lays_of fun e he => h e (List.mem_cons_of_mem _ he)]; rfl
theorem deep_of {m : Nat} : ∀ {ds : List PyData}, (∀ d ∈ ds, d.depth ≤ m) → PyData.depthAll ds ≤ m
  | [], _ => Nat.zero_le _
  | d :: r, h => by
    rw [PyData.depthAll]
    exact Nat.max_le.mpr ⟨h d List.mem_cons_self, deep_of fun e he => h e (List.mem_cons_of_mem _ he)⟩
theorem nu_plain : ∀ {k : Nat} {d : PyData}, Nu k d → noDct d = true ∧ d.canLay0 = true ∧ d.depth ≤ k
  | k, .int i, _ => ⟨by simp [noDct], by simp [PyData.canLay0], by simp [PyData.depth]⟩
  | k, .bool i, _ => ⟨by simp [noDct], by simp [PyData.canLay0], by simp [PyData.depth]⟩
  | 0, .list ds, h => h.elim
  | 0, .tuple ds, h => h.elim
  | k + 1, .list ds, h => by
    refine ⟨?_, ?_, ?_⟩
    · rw [noDct]; exact no_dcts_of fun d hd => (nu_plain (h d hd)).1
    · rw [PyData.canLay0]; exact can_lays_of fun d hd => (nu_plain (h d hd)).2.1
    · rw [PyData.depth]; exact Nat.succ_le_succ (deep_of fun d hd => (nu_plain (h d hd)).2.2)
  | k + 1, .tuple ds, h => by
    refine ⟨?_, ?_, ?_⟩
    · rw [noDct]; exact no_dcts_of fun d hd => (nu_plain (h d hd)).1
    · rw [PyData.canLay0]; exact can_lays_of fun d hd => (nu_plain (h d hd)).2.1
    · rw [PyData.depth]; exact Nat.succ_le_succ (deep_of fun d hd => (nu_plain (h d hd)).2.2)
  | 0, .none, h => h.elim
  | 0, .str _, h => h.elim
  | 0, .dict _, h => h.elim
  | k + 1, .none, h => h.elim
  | k + 1, .str _, h => h.elim
  | k + 1, .dict _, h => h.elim
theorem nu_shaped {k : Nat} {d : PyData} (h : Nu k d) (hk : k ≤ 60) : SeqAt.shaped d = true := by
  obtain ⟨_, h2, h3⟩ := nu_plain h
  unfold SeqAt.shaped
  rw [h2, decide_eq_true (by omega)]
  rfl
theorem nu_eq {j k : Nat} {d e : PyData} (h : Nu j d) (g : Nu k e) (hj : j ≤ 60) (hk : k ≤ 60) : gEq d e = some (.bool (PyData.eqv d e)) := by
  unfold gEq
  split
  · rfl
  · rw [if_pos ⟨⟨(nu_plain h).1, (nu_plain g).1⟩, nu_shaped h hj, nu_shaped g hk⟩]
theorem nu_ne {j k : Nat} {d e : PyData} (h : Nu j d) (g : Nu k e) (hj : j ≤ 60) (hk : k ≤ 60) : gNe d e = some (.bool (!PyData.eqv d e)) := by
  unfold gNe
  split
  · rfl
  · rw [if_pos ⟨⟨(nu_plain h).1, (nu_plain g).1⟩, nu_shaped h hj, nu_shaped g hk⟩]
theorem eqvAll_refl : ∀ {ds : List PyData}, (∀ d ∈ ds, PyData.eqv d d = true) → PyData.eqvAll ds ds = true
  | [], _ => by rw [PyData.eqvAll]
  | d :: r, h => by rw [PyData.eqvAll, h d List.mem_cons_self, eqvAll_refl fun e he => h e (List.mem_cons_of_mem _ he)]; rfl
theorem nu_refl : ∀ {k : Nat} {d : PyData}, Nu k d → PyData.eqv d d = true
  | k, .int i, _ => by rw [PyData.eqv]; exact beq_self_eq_true i
  | k, .bool i, _ => by rw [PyData.eqv]; exact beq_self_eq_true i
  | 0, .list ds, h => h.elim
  | 0, .tuple ds, h => h.elim
  | k + 1, .list ds, h => by rw [PyData.eqv]; exact eqvAll_refl fun d hd => nu_refl (h d hd)
  | k + 1, .tuple ds, h => by rw [PyData.eqv]; exact eqvAll_refl fun d hd => nu_refl (h d hd)
  | 0, .none, h => h.elim
  | 0, .str _, h => h.elim
  | 0, .dict _, h => h.elim
  | k + 1, .none, h => h.elim
  | k + 1, .str _, h => h.elim
  | k + 1, .dict _, h => h.elim
theorem eqvAll_ints : ∀ a b : List Int, PyData.eqvAll (a.map .int) (b.map .int) = decide (a = b)
  | [], [] => by simp [PyData.eqvAll]
  | [], b :: r => by simp [PyData.eqvAll]
  | a :: r, [] => by simp [PyData.eqvAll]
  | a :: r, b :: t => by
    rw [List.map_cons, List.map_cons, PyData.eqvAll, eqvAll_ints r t, PyData.eqv]
    by_cases e : a = b
    · subst e; simp
    · simp [e]
theorem not_str_eq {d e : PyData} (h : noDct d = true) (g : noDct e = true) (sd : SeqAt.shaped d = true) (se : SeqAt.shaped e = true) : gEq d e = some (.bool (PyData.eqv d e)) := by
  unfold gEq
  split
  · rfl
  · rw [if_pos ⟨⟨h, g⟩, sd, se⟩]
/-! ### their texts -/
mutual
def wtN : PyData → Nat
  | .int _ => 202
  | .bool _ => 5
  | .list ds => wtsN ds + 4
  | .tuple ds => wtsN ds + 4
  | _ => 0
def wtsN : List PyData → Nat
  | [] => 0
  | d :: r => wtN d + 2 + wtsN r
end
theorem wtsN_le {m : Nat} : ∀ {ds : List PyData}, (∀ d ∈ ds, wtN d ≤ m) → wtsN ds ≤ (m + 2) * ds.length
  | [], _ => by rw [wtsN]; exact Nat.zero_le _
  | d :: r, h => by
    have a := h d List.mem_cons_self
    have b := wtsN_le fun e he => h e (List.mem_cons_of_mem d he)
    rw [wtsN, List.length_cons, Nat.mul_succ]
    omega
theorem text_cat (x y : Str) : (x ++ y).length = x.length + y.length := PySem.Str.length_append x y
theorem join_le (ts : List Str) : (Str.join ", " ts).length ≤ piled ts := by
  by_cases h : ts = []
  · subst h
    exact Nat.le_refl 0
  · have := join_length_add ts h
    omega
theorem from_le : ∀ (ts : List Str) (k : Nat) (acc : Str), (textFrom k acc ts).length ≤ acc.length + piled ts
  | [], k, acc => by rw [textFrom, piled_nil]; omega
  | t :: r, k, acc => by
    have a := from_le r (k + 1) (acc ++ (if k > 0 then ", " else "" : String) ++ t)
    have l : ((if k > 0 then ", " else "" : String) : Str).length ≤ 2 := by split <;> decide
    rw [text_cat, text_cat] at a
    rw [textFrom, piled_cons]
    omega
theorem tuple_le (ts : List Str) : (tupleText ts).length ≤ piled ts + 4 := by
  unfold tupleText
  rw [text_cat, text_cat]
  have a := join_le ts
  have e1 : ((("(" : String) : Str)).length = 1 := rfl
  have e3 : (((if ts.length == 1 then ",)" else ")" : String) : Str)).length ≤ 2 := by split <;> decide
  omega
theorem list_le (ts : List Str) : (listText ts).length ≤ piled ts + 4 := by
  unfold listText
  rw [text_cat]
  have a := from_le ts 0 "["
  have e1 : ((("[" : String) : Str)).length = 1 := rfl
  have e2 : ((("]" : String) : Str)).length = 1 := rfl
  omega
theorem piled_wtN : ∀ ds : List PyData, (∀ d ∈ ds, d.shown.length ≤ wtN d) → piled (PyData.shownAll ds) ≤ wtsN ds
  | [], _ => by rw [PyData.shownAll, piled_nil]; exact Nat.zero_le _
  | d :: r, h => by
    rw [PyData.shownAll, piled_cons, wtsN]
    have a := h d List.mem_cons_self
    have b := piled_wtN r fun e he => h e (List.mem_cons_of_mem _ he)
    omega
theorem nu_len : ∀ {k : Nat} {d : PyData}, Nu k d → d.shown.length ≤ wtN d
  | k, .int i, h => by
    have h' : i.natAbs < 2 ^ 200 := by cases k <;> exact h
    have l : i.natAbs.log2 < 200 := by
      by_cases z : i.natAbs = 0
      · rw [z]; decide
      · exact (Nat.log2_lt z).mpr h'
    have a := int_text_length_le (by decide) l
    simp only [PyData.shown, wtN]
    rw [PySem.ofString_length]
    omega
  | k, .bool b, _ => by simp only [PyData.shown, wtN]; cases b <;> decide
  | 0, .list ds, h => h.elim
  | 0, .tuple ds, h => h.elim
  | k + 1, .list ds, h => by
    simp only [PyData.shown, wtN]
    have a := piled_wtN ds fun d hd => nu_len (h d hd)
    have b := list_le (PyData.shownAll ds)
    omega
  | k + 1, .tuple ds, h => by
    simp only [PyData.shown, wtN]
    have a := piled_wtN ds fun d hd => nu_len (h d hd)
    have b := tuple_le (PyData.shownAll ds)
    omega
  | 0, .none, h => h.elim
  | 0, .str _, h => h.elim
  | 0, .dict _, h => h.elim
  | k + 1, .none, h => h.elim
  | k + 1, .str _, h => h.elim
  | k + 1, .dict _, h => h.elim
theorem can_show_of : ∀ {ds : List PyData}, (∀ d ∈ ds, d.showable = true) → PyData.showableAll ds = true
  | [], _ => by rw [PyData.showableAll]
  | d :: r, h => by rw [PyData.showableAll, h d List.mem_cons_self, can_show_of fun e he => h e (List.mem_cons_of_mem _ he)]; rfl
theorem real_of : ∀ {ds : List PyData}, (∀ d ∈ ds, realAll d = true) → realAlls ds = true
  | [], _ => by rw [realAlls]
  | d :: r, h => by rw [realAlls, h d List.mem_cons_self, real_of fun e he => h e (List.mem_cons_of_mem _ he)]; rfl
theorem nu_shows : ∀ {k : Nat} {d : PyData}, Nu k d → d.showable = true ∧ realAll d = true
  | k, .int i, h => by
    have h' : i.natAbs < 2 ^ 200 := by cases k <;> exact h
    refine ⟨?_, by simp [realAll]⟩
    rw [PyData.showable]
    refine decide_eq_true ?_
    by_cases z : i.natAbs = 0
    · rw [z]; decide
    · exact Nat.lt_of_lt_of_le ((Nat.log2_lt z).mpr h') (by decide)
  | k, .bool b, _ => ⟨by rw [PyData.showable], by simp [realAll]⟩
  | 0, .list ds, h => h.elim
  | 0, .tuple ds, h => h.elim
  | k + 1, .list ds, h => by
    refine ⟨?_, ?_⟩
    · rw [PyData.showable]; exact can_show_of fun d hd => (nu_shows (h d hd)).1
    · rw [realAll]; exact real_of fun d hd => (nu_shows (h d hd)).2
  | k + 1, .tuple ds, h => by
    refine ⟨?_, ?_⟩
    · rw [PyData.showable]; exact can_show_of fun d hd => (nu_shows (h d hd)).1
    · rw [realAll]; exact real_of fun d hd => (nu_shows (h d hd)).2
  | 0, .none, h => h.elim
  | 0, .str _, h => h.elim
  | 0, .dict _, h => h.elim
  | k + 1, .none, h => h.elim
  | k + 1, .str _, h => h.elim
  | k + 1, .dict _, h => h.elim
theorem nu_repr {k : Nat} {d : PyData} (h : Nu k d) (hk : k ≤ 50) (few : wtN d ≤ 10000000) : gRepr [d] = some (.str d.shown) := by
  obtain ⟨h1, h2⟩ := nu_shows h
  have h3 := (nu_plain h).2.2
  have h4 := nu_len h
  have h5 : (10000000 : Nat) ≤ sizeLine := by decide
  unfold gRepr
  simp only [h1, h2, Bool.true_and]
  rw [if_pos]
  rw [Bool.and_eq_true]
  exact ⟨decide_eq_true (by omega), decide_eq_true (by omega)⟩
theorem ne_shown (x : Str) : gNe (.str x) (.str x) = some (.bool false) := by
  have e : PyData.eqv (.str x) (.str x) = true := by rw [PyData.eqv]; exact beq_self_eq_true x
  unfold gNe
  rw [if_pos ⟨rfl, rfl⟩, e]
  rfl
end Dl

/-! the places are looked at -/
namespace K70
open PySem PySem.Spec PyProof.Rows L2 Dl
def plt (p q : Pl) : Prop := p.1 < q.1 ∨ (p.1 = q.1 ∧ p.2 < q.2)
instance (p q : Pl) : Decidable (plt p q) := by unfold plt; infer_instance
/-- hidden places: in the box, rising -/
structure Hd (R C : Nat) (h : List Pl) : Prop where
  hin : ∀ p ∈ h, In R C p
  up : h.Pairwise plt
theorem Hd.nd {R C : Nat} {h : List Pl} (d : Hd R C h) : h.Nodup := d.up.imp fun {a b} l e => by
  subst e
  rcases l with l | l
  · exact Nat.lt_irrefl _ l
  · exact Nat.lt_irrefl _ l.2
theorem Hd.few {R C : Nat} (fR : R ≤ 6) (fC : C ≤ 6) {h : List Pl} (d : Hd R C h) : h.length ≤ 36 := by
  have l := nodup_len h ((List.range 6).flatMap fun a => (List.range 6).map fun b => (a, b)) d.nd fun p hp => by
    have i := d.hin p hp
    refine List.mem_flatMap.mpr ⟨p.1, List.mem_range.mpr (Nat.lt_of_lt_of_le i.1 fR), List.mem_map.mpr ⟨p.2, List.mem_range.mpr (Nat.lt_of_lt_of_le i.2 fC), rfl⟩⟩
  have e : ((List.range 6).flatMap fun a => (List.range 6).map fun b => (a, b)).length = 36 := by decide
  rw [e] at l
  exact l
theorem is_place_ok {T : Tb} {R C : Nat} (bx : Box T R C) {p : Pl} (hp : In R C p) : Gd (m__is_place [tD T, plD p]) fun q => q = .bool true := by
  have few := bx.few
  unfold m__is_place
  refine m_fnP rfl ?_
  unfold b__is_place
  have h1 : 0 < T.length := by rw [bx.rows]; omega
  have lenT : gLen [tD T] = some (.int (R : Nat)) := by
    show some (PyData.int ((T.map rowD).length : Nat)) = _
    rw [List.length_map, bx.rows]
  have lenR : gLen [rowD T[0]] = some (.int (C : Nat)) := by
    show some (PyData.int (((T[0]).map PyData.int).length : Nat)) = _
    rw [List.length_map, bx.cols _ (List.getElem_mem h1)]
  refine s_seq ?_
  refine s_if ?_
  refine t_or ?_
  refine t_not ?_
  refine t_tst ?_
  refine e_un ?_
  refine e_var (d := plD p) rfl ?_
  refine gd (a := .bool true) rfl ⟨_, rfl, .inr ⟨rfl, ?_⟩⟩
  refine t_or ?_
  refine t_tst ?_
  refine e_op ?_
  refine e_b ?_
  refine a_cons ?_
  refine e_var (d := plD p) rfl ?_
  refine a_nil ?_
  refine gd (a := .int 2) rfl ?_
  refine e_c ?_
  refine gd (a := .bool false) rfl ⟨_, rfl, .inr ⟨rfl, ?_⟩⟩
  refine t_not ?_
  refine t_tst ?_
  refine e_b ?_
  refine a_cons ?_
  refine e_l ?_
  refine f_lc_pure (fun _ => true) (fun _ => .bool true) ?_
  refine f_itA ?_
  refine e_var (d := plD p) rfl ?_
  refine .inl ⟨_, .inr rfl, rfl, (by show 2 < sizeLine; decide), fun d hd => ⟨t_yes ⟨rfl, rfl⟩, fun _ => ?_⟩, ?_⟩
  · have : ∃ i : Int, d = .int i := by
      simp only [List.mem_cons, List.not_mem_nil, or_false] at hd
      rcases hd with rfl | rfl <;> exact ⟨_, rfl⟩
    obtain ⟨i, rfl⟩ := this
    refine e_call ?_
    refine a_cons ?_
    refine e_var (d := .int i) rfl ?_
    refine a_nil ?_
    refine gd_mono (whole_ok i) fun q hq => ?_
    exact ⟨hq, rfl⟩
  · rw [List.filter_eq_self.mpr (fun _ _ => rfl)]
    refine a_nil ?_
    refine gd (all_true _) ⟨_, rfl, .inr ⟨rfl, s_nil ?_⟩⟩
    refine s_ret ?_
    refine e_and ?_
    refine e_chain ?_
    refine e_c ?_
    refine e_op ?_
    refine e_var (d := plD p) rfl ?_
    refine e_c ?_
    refine gd (pl_0 p) ?_
    refine gd (a := .bool true) (by show some (PyData.bool (decide ((0 : Int) ≤ (p.1 : Int)))) = _; rw [decide_eq_true (by omega)]) (.inl ⟨rfl, ?_⟩)
    refine e_b ?_
    refine a_cons ?_
    refine e_var (d := tD T) rfl ?_
    refine a_nil ?_
    refine gd lenT ?_
    have l1 := hp.1
    have l2 := hp.2
    refine gd (a := .bool true) (by show some (PyData.bool (decide ((p.1 : Int) < (R : Int)))) = _; rw [decide_eq_true (by omega)]) ⟨_, rfl, .inl ⟨rfl, ?_⟩⟩
    refine e_chain ?_
    refine e_c ?_
    refine e_op ?_
    refine e_var (d := plD p) rfl ?_
    refine e_c ?_
    refine gd (pl_1 p) ?_
    refine gd (a := .bool true) (by show some (PyData.bool (decide ((0 : Int) ≤ (p.2 : Int)))) = _; rw [decide_eq_true (by omega)]) (.inl ⟨rfl, ?_⟩)
    refine e_b ?_
    refine a_cons ?_
    refine e_op ?_
    refine e_var (d := tD T) rfl ?_
    refine e_c ?_
    refine gd (ix_nat (k := 0) (d := rowD T[0]) (by rw [List.getElem?_map, List.getElem?_eq_getElem h1]; rfl)) ?_
    refine a_nil ?_
    refine gd lenR ?_
    exact gd (a := .bool true) (by show some (PyData.bool (decide ((p.2 : Int) < (C : Int)))) = _; rw [decide_eq_true (by omega)]) rfl
theorem lt_pairs (p q : Pl) : gLtT (plD p) (plD q) = some (.bool (decide (plt p q))) := by
  have e : gLtT (plD p) (plD q) = some (.bool (if decide ((p.1 : Int) = (q.1 : Int)) = true then (if decide ((p.2 : Int) = (q.2 : Int)) = true then false else decide ((p.2 : Int) < (q.2 : Int))) else decide ((p.1 : Int) < (q.1 : Int)))) := rfl
  rw [e]
  refine congrArg (fun b => some (PyData.bool b)) ?_
  have dec : ∀ b : Bool, (b = true ↔ plt p q) → b = decide (plt p q) := fun b hb => by
    by_cases hp : plt p q
    · rw [decide_eq_true hp]; exact hb.mpr hp
    · rw [decide_eq_false hp]
      cases b with
      | false => rfl
      | true => exact absurd (hb.mp rfl) hp
  refine dec _ ?_
  unfold plt
  by_cases h1 : p.1 = q.1
  · rw [if_pos (decide_eq_true (by omega))]
    by_cases h2 : p.2 = q.2
    · rw [if_pos (decide_eq_true (by omega))]
      exact ⟨fun z => (by cases z), fun z => (by omega)⟩
    · rw [if_neg (by rw [decide_eq_true_eq]; omega), decide_eq_true_eq]
      omega
  · rw [if_neg (by rw [decide_eq_true_eq]; omega), decide_eq_true_eq]
    omega
theorem next_of {R : Pl → Pl → Prop} : ∀ {h : List Pl}, h.Pairwise R → ∀ q ∈ h.zip h.tail, R q.1 q.2
  | [], _, q, hq => by cases hq
  | [a], _, q, hq => by cases hq
  | a :: b :: r, pw, q, hq => by
    have pw' := List.pairwise_cons.mp pw
    rw [List.tail_cons, List.zip_cons_cons] at hq
    rcases List.mem_cons.mp hq with rfl | z
    · exact pw'.1 b List.mem_cons_self
    · exact next_of pw'.2 q z
theorem f_itZB {fa fb : DE} {s : Sl} {QA : List PyData → Sl → Prop} (h : Ge (fa s) fun a s1 => Ge (fb s1) fun b s2 => ∃ t1 xs t2 ys, sqD a = some (t1, xs) ∧ sqD b = some (t2, ys) ∧ QA (List.zipWith (fun x y => .tuple [x, y]) xs ys) s2) : Ge (itZB fa fb s) QA := by
  obtain ⟨a, s1, e1, b, s2, e2, t1, xs, t2, ys, e3, e4, k⟩ := h
  exact ⟨_, s2, by unfold itZB; rw [e1, Option.bind_some, e2, Option.bind_some, e3, Option.bind_some, e4]; rfl, k⟩
theorem cut_tail (ds : List PyData) : Dl.cutD ds (some 1) none = ds.tail := by
  unfold Dl.cutD
  have e1 : HT.sIx ds.length 0 (some 1) = min 1 ds.length := HT.sIx_nat ds.length 0 1
  rw [e1, HT.sIx_none]
  cases ds with
  | nil => rfl
  | cons a r =>
    rw [List.length_cons, Nat.min_eq_left (by omega)]
    show List.take (r.length + 1 - 1) r = r
    rw [Nat.add_sub_cancel, List.take_length]
theorem check_places_ok {T : Tb} {R C : Nat} (bx : Box T R C) {h : List Pl} (hd : Hd R C h) : Gd (m__check_places [tD T, hD h]) fun q => q = .ok .none := by
  have few := hd.few bx.few.1.2 bx.few.2.2
  have lt : (h.map plD).length < sizeLine := by
    rw [List.length_map]
    exact Nat.lt_of_le_of_lt few (by decide)
  unfold m__check_places
  refine m_fnX rfl ?_
  unfold b__check_places
  refine x_seq ?_
  refine x_if ?_
  refine t_or ?_
  refine t_not ?_
  refine t_tst ?_
  refine e_un ?_
  refine e_var (d := hD h) rfl ?_
  refine gd (a := .bool true) rfl ⟨_, rfl, .inr ⟨rfl, ?_⟩⟩
  refine t_not ?_
  refine t_tst ?_
  refine e_b ?_
  refine a_cons ?_
  refine e_l ?_
  refine f_lc_pure (fun _ => true) (fun _ => .bool true) ?_
  refine f_itA ?_
  refine e_var (d := hD h) rfl ?_
  refine .inl ⟨_, .inr rfl, rfl, lt, fun d hd' => ⟨t_yes ⟨rfl, rfl⟩, fun _ => ?_⟩, ?_⟩
  · obtain ⟨p, hp, rfl⟩ := List.mem_map.mp hd'
    refine e_call ?_
    refine a_cons ?_
    refine e_var (d := tD T) rfl ?_
    refine a_cons ?_
    refine e_var (d := plD p) rfl ?_
    refine a_nil ?_
    refine gd_mono (is_place_ok bx (hd.hin p hp)) fun q hq => ?_
    exact ⟨hq, rfl⟩
  · rw [List.filter_eq_self.mpr (fun _ _ => rfl)]
    refine a_nil ?_
    refine gd (all_true _) ⟨_, rfl, .inr ⟨rfl, x_up ?_⟩⟩
    refine s_nil ?_
    refine x_if ?_
    refine t_not ?_
    refine t_tst ?_
    refine e_b ?_
    refine a_cons ?_
    refine e_l ?_
    refine f_lcT_pure (fun q : Pl × Pl => .tuple [plD q.1, plD q.2]) (fun _ => true) (fun _ => .bool true) ?_
    refine f_itZB ?_
    refine e_var (d := hD h) rfl ?_
    refine e_sl ?_
    refine e_var (d := hD h) rfl ?_
    refine o_s ?_
    refine e_c ?_
    refine ⟨1, rfl, ?_⟩
    refine o_n ?_
    refine gd (a := .tuple (h.tail.map plD)) ?_ ?_
    · show some (PyData.tuple (Dl.cutD (h.map plD) (some 1) none)) = _
      rw [cut_tail, List.map_tail]
    refine ⟨_, _, _, _, rfl, rfl, h.zip h.tail, ?_, rfl, ?_, fun q hq => ⟨_, rfl, rfl, rfl, t_yes ⟨rfl, rfl⟩, fun _ => ?_⟩, ?_⟩
    · rw [List.zipWith_map, List.zip_eq_zipWith, List.map_zipWith]
    · rw [List.length_zip]
      exact Nat.lt_of_le_of_lt (show min h.length h.tail.length ≤ 36 by omega) (by decide)
    · refine e_op ?_
      refine e_var (d := plD q.1) rfl ?_
      refine e_var (d := plD q.2) rfl ?_
      refine gd (lt_pairs q.1 q.2) ?_
      rw [decide_eq_true (next_of hd.up q hq)]
      exact ⟨rfl, rfl⟩
    · rw [List.filter_eq_self.mpr (fun _ _ => rfl)]
      refine a_nil ?_
      have e : (h.zip h.tail).map (fun _ => PyData.bool true) = ((h.zip h.tail).map fun _ => PyData.none).map fun _ => PyData.bool true := by rw [List.map_map]; rfl
      refine gd (a := .bool true) (by rw [e]; exact all_true _) ⟨_, rfl, .inr ⟨rfl, x_up ?_⟩⟩
      exact s_nil rfl
/-! a place among places -/
theorem pl_nu {R C : Nat} (fR : R ≤ 6) (fC : C ≤ 6) {p : Pl} (hp : In R C p) : Nu 1 (plD p) := nu_tup fun d hd => by
  have l1 := hp.1
  have l2 := hp.2
  simp only [List.mem_cons, List.not_mem_nil, or_false] at hd
  rcases hd with rfl | rfl <;> exact nu_small (by omega) (by omega)
theorem hd_nu {R C : Nat} (fR : R ≤ 6) (fC : C ≤ 6) {h : List Pl} (hd : ∀ p ∈ h, In R C p) : Nu 2 (hD h) := nu_tup fun d hd' => by
  obtain ⟨p, hp, rfl⟩ := List.mem_map.mp hd'
  exact pl_nu fR fC (hd p hp)
theorem eqv_pl (p q : Pl) : PyData.eqv (plD p) (plD q) = decide (p = q) := by
  have e : plD p = .tuple ([(p.1 : Int), (p.2 : Int)].map .int) := rfl
  have e' : plD q = .tuple ([(q.1 : Int), (q.2 : Int)].map .int) := rfl
  rw [e, e', PyData.eqv, eqvAll_ints]
  by_cases h : p = q
  · subst h; simp
  · rw [decide_eq_false h, decide_eq_false]
    intro z
    injection z with z1 z2
    injection z2 with z2 _
    exact h (Prod.ext (by omega) (by omega))
theorem in_places {R C : Nat} (fR : R ≤ 6) (fC : C ≤ 6) {h : List Pl} (hd : ∀ p ∈ h, In R C p) {p : Pl} (hp : In R C p) (neg : Bool) : gInT neg (plD p) (hD h) = some (.bool (if neg = true then !decide (p ∈ h) else decide (p ∈ h))) := by
  have n1 := pl_nu fR fC hp
  have n2 := hd_nu fR fC hd
  have e : (h.map plD).any (fun z => PyData.eqv z (plD p)) = decide (p ∈ h) := by
    clear n2 hd
    induction h with
    | nil => rfl
    | cons a r ih =>
      rw [List.map_cons, List.any_cons, ih, eqv_pl]
      by_cases c : a = p
      · subst c; simp
      · have c' : ¬ p = a := fun z => c z.symm
        simp [c, c']
  show (if (noDct (plD p) = true ∧ noDct (hD h) = true) ∧ SeqAt.shaped (plD p) = true ∧ SeqAt.shaped (hD h) = true then some (PyData.bool (if neg then !(h.map plD).any (fun z => PyData.eqv z (plD p)) else (h.map plD).any fun z => PyData.eqv z (plD p))) else none) = _
  rw [if_pos ⟨⟨(nu_plain n1).1, (nu_plain n2).1⟩, nu_shaped n1 (by decide), nu_shaped n2 (by decide)⟩, e]
theorem check_place_ok {R C : Nat} (fR : R ≤ 6) (fC : C ≤ 6) {h : List Pl} (hd : Hd R C h) {p : Pl} (hp : p ∈ h) : Gd (m__check_place [hD h, plD p]) fun q => q = .ok .none := by
  unfold m__check_place
  refine m_fnX rfl ?_
  unfold b__check_place
  refine x_if ?_
  refine t_or ?_
  refine t_not ?_
  refine t_tst ?_
  refine e_un ?_
  refine e_var (d := plD p) rfl ?_
  refine gd (a := .bool true) rfl ⟨_, rfl, .inr ⟨rfl, ?_⟩⟩
  refine t_or ?_
  refine t_not ?_
  refine t_tst ?_
  refine e_b ?_
  refine a_cons ?_
  refine e_l ?_
  refine f_lc_pure (fun _ => true) (fun _ => .bool true) ?_
  refine f_itA ?_
  refine e_var (d := plD p) rfl ?_
  refine .inl ⟨_, .inr rfl, rfl, (by show 2 < sizeLine; decide), fun d hd => ⟨t_yes ⟨rfl, rfl⟩, fun _ => ?_⟩, ?_⟩
  · have : ∃ i : Int, d = .int i := by
      simp only [List.mem_cons, List.not_mem_nil, or_false] at hd
      rcases hd with rfl | rfl <;> exact ⟨_, rfl⟩
    obtain ⟨i, rfl⟩ := this
    refine e_call ?_
    refine a_cons ?_
    refine e_var (d := .int i) rfl ?_
    refine a_nil ?_
    refine gd_mono (whole_ok i) fun q hq => ?_
    exact ⟨hq, rfl⟩
  · rw [List.filter_eq_self.mpr (fun _ _ => rfl)]
    refine a_nil ?_
    refine gd (all_true _) ⟨_, rfl, .inr ⟨rfl, ?_⟩⟩
    refine t_tst ?_
    refine e_op ?_
    refine e_var (d := plD p) rfl ?_
    refine e_var (d := hD h) rfl ?_
    refine gd (in_places fR fC hd.hin (hd.hin p hp) true) ⟨_, rfl, .inr ⟨?_, x_up (s_nil rfl)⟩⟩
    rw [if_pos rfl, decide_eq_true hp]
    rfl
end K70

/-! both bounds; what is left in a line -/
namespace K70
open PySem PySem.Spec PyProof.Rows L2 Dl
theorem row_few {R C : Nat} (fR : R ≤ 6) (fC : C ≤ 6) {h : List Pl} (hd : Hd R C h) (r : Nat) : (h.filter (rowF r)).length ≤ 6 := by
  have l := nodup_len (h.filter (rowF r)) ((List.range 6).map fun b => (r, b)) (hd.nd.sublist List.filter_sublist) fun p hp => by
    obtain ⟨h1, h2⟩ := List.mem_filter.mp hp
    have e : p.1 = r := of_decide_eq_true h2
    have i := hd.hin p h1
    refine List.mem_map.mpr ⟨p.2, List.mem_range.mpr (Nat.lt_of_lt_of_le i.2 fC), ?_⟩
    rw [← e]
  rw [List.length_map, List.length_range] at l
  exact l
theorem sum_few {m : Int} : ∀ {l : List Int}, (∀ x ∈ l, x ≤ m) → l.sum ≤ m * (l.length : Nat)
  | [], _ => by simp
  | x :: r, h => by
    have a := h x List.mem_cons_self
    have b := sum_few fun y hy => h y (List.mem_cons_of_mem x hy)
    rw [List.sum_cons, List.length_cons]
    have e : m * ((r.length + 1 : Nat) : Int) = m * (r.length : Nat) + m := by rw [Int.natCast_add, Int.mul_add]; simp
    omega
theorem cell_in {T : Tb} {R C : Nat} (b : Box T R C) {p : Pl} (hp : In R C p) : ∃ r ∈ T, cell T p ∈ r := by
  have h1 : p.1 < T.length := by rw [b.rows]; exact hp.1
  have h2 : p.2 < (T[p.1]).length := by rw [b.cols _ (List.getElem_mem h1)]; exact hp.2
  have e : cell T p = (T[p.1])[p.2] := by
    unfold cell
    simp [List.getD_eq_getElem?_getD, List.getElem?_eq_getElem h1, List.getElem?_eq_getElem h2]
  refine ⟨T[p.1], List.getElem_mem h1, ?_⟩
  rw [e]
  exact List.getElem_mem h2
theorem su_le {T : Tb} {R C : Nat} (bx : Box T R C) (hi : ∀ r ∈ T, ∀ x ∈ r, x ≤ 1000000000) {h : List Pl} (hd : Hd R C h) (r : Nat) : su T (rowF r) h ≤ 10000000000 := by
  have few := row_few bx.few.1.2 bx.few.2.2 hd r
  have a := sum_few (m := 1000000000) (l := (h.filter (rowF r)).map (cell T)) fun x hx => by
    obtain ⟨p, hp, rfl⟩ := List.mem_map.mp hx
    obtain ⟨q, hq, hm⟩ := cell_in bx (hd.hin p (List.mem_filter.mp hp).1)
    exact hi q hq _ hm
  rw [List.length_map] at a
  unfold su
  omega
theorem sc_of {T : Tb} {R C : Nat} (bx : Box T R C) (hi : ∀ r ∈ T, ∀ x ∈ r, x ≤ 1000000000) {h : List Pl} (hd : Hd R C h) {place : Pl} (at_ : place ∈ h) {tn : Int} (ht : tn = 1 ∨ tn = -1) : Sc T R C h (h.filter fun p => decide (p ≠ place)) place tn := by
  have few := hd.few bx.few.1.2 bx.few.2.2
  refine ⟨ht, hd.hin, hd.nd, few, at_, fun p => ?_, Nat.le_trans (List.length_filter_le ..) few, su_le bx hi hd⟩
  rw [List.mem_filter, decide_eq_true_eq]
theorem bounds_ok {T0 : Tb} {R C : Nat} (bx : Box T0 R C) (hi : ∀ r ∈ T0, ∀ x ∈ r, x ≤ 1000000000) {h : List Pl} (hd : Hd R C h) {place : Pl} (at_ : place ∈ h) : Gd (m_bounds_at [tD T0, hD h, plD place]) fun q => ∃ (T1 T2 : Tb) (rc1 rc2 : Pl → Bool), q = .ok (.tuple [.int (cell T1 place), tD T1, paperD rc1 (-1) R C, .int (cell T2 place), tD T2, paperD rc2 1 R C]) ∧ (Rd T0 R C h T1 ∧ Pp T1 h place (-1) rc1) ∧ (Rd T0 R C h T2 ∧ Pp T2 h place 1 rc2) := by
  unfold m_bounds_at
  refine m_fnX rfl ?_
  unfold b_bounds_at
  refine x_seq ?_
  refine x_drop ?_
  refine a_cons ?_
  refine e_var (d := tD T0) rfl ?_
  refine a_nil ?_
  refine gd_mono (check_counts_ok bx hi) fun q hq => .inl ⟨_, hq, ?_⟩
  refine x_seq ?_
  refine x_drop ?_
  refine a_cons ?_
  refine e_var (d := tD T0) rfl ?_
  refine a_cons ?_
  refine e_var (d := hD h) rfl ?_
  refine a_nil ?_
  refine gd_mono (check_places_ok bx hd) fun q hq => .inl ⟨_, hq, ?_⟩
  refine x_seq ?_
  refine x_drop ?_
  refine a_cons ?_
  refine e_var (d := hD h) rfl ?_
  refine a_cons ?_
  refine e_var (d := plD place) rfl ?_
  refine a_nil ?_
  refine gd_mono (check_place_ok bx.few.1.2 bx.few.2.2 hd at_) fun q hq => .inl ⟨_, hq, ?_⟩
  refine x_up ?_
  refine s_ret ?_
  refine e_tup ?_
  refine a_star ?_
  refine e_call ?_
  refine a_cons ?_
  refine e_var (d := tD T0) rfl ?_
  refine a_cons ?_
  refine e_var (d := hD h) rfl ?_
  refine a_cons ?_
  refine e_var (d := plD place) rfl ?_
  refine a_cons ?_
  refine e_c ?_
  refine a_nil ?_
  refine gd_mono (bound_ok bx (sc_of bx hi hd at_ (tn := -1) (.inr rfl))) fun q hq => ?_
  obtain ⟨T1, rc1, rfl, rd1, pp1⟩ := hq
  refine ⟨_, .inr rfl, ?_⟩
  refine a_star ?_
  refine e_call ?_
  refine a_cons ?_
  refine e_var (d := tD T0) rfl ?_
  refine a_cons ?_
  refine e_var (d := hD h) rfl ?_
  refine a_cons ?_
  refine e_var (d := plD place) rfl ?_
  refine a_cons ?_
  refine e_c ?_
  refine a_nil ?_
  refine gd_mono (bound_ok bx (sc_of bx hi hd at_ (tn := 1) (.inl rfl))) fun q hq => ?_
  obtain ⟨T2, rc2, rfl, rd2, pp2⟩ := hq
  refine ⟨_, .inr rfl, ?_⟩
  refine a_nil ?_
  exact ⟨Nat.le_of_ble_eq_true rfl, T1, T2, rc1, rc2, rfl, ⟨rd1, pp1⟩, rd2, pp2⟩
/-! ### what is left -/
def leftR (T : Tb) (h : List Pl) (R : Nat) : List Int := (List.range R).map fun r => su T (rowF r) h
def leftC (T : Tb) (h : List Pl) (C : Nat) : List Int := (List.range C).map fun c => su T (colF c) h
theorem sum_ints (l : List Int) : gSum [.list (l.map .int)] = some (.int l.sum) := by
  show (intsD _).map _ = _
  rw [ints_of_map]
  rfl
theorem left_ok {T : Tb} {R C : Nat} (bx : Box T R C) {h : List Pl} (hd : Hd R C h) : Gd (m__law_left [tD T, hD h]) fun q => q = .list ((leftR T h R ++ leftC T h C).map .int) := by
  have few := bx.few
  have fh := hd.few few.1.2 few.2.2
  have h1 : 0 < T.length := by rw [bx.rows]; omega
  have lenT : gLen [tD T] = some (.int (R : Nat)) := by
    show some (PyData.int ((T.map rowD).length : Nat)) = _
    rw [List.length_map, bx.rows]
  have lenR : gLen [rowD T[0]] = some (.int (C : Nat)) := by
    show some (PyData.int (((T[0]).map PyData.int).length : Nat)) = _
    rw [List.length_map, bx.cols _ (List.getElem_mem h1)]
  unfold m__law_left
  refine m_fnP rfl ?_
  unfold b__law_left
  refine s_seq ?_
  refine s_set ?_
  refine e_l ?_
  refine f_lc_pure (fun _ => true) (fun d => .int (su T (rowF (natOf d)) h)) ?_
  refine f_r1 ?_
  refine e_b ?_
  refine a_cons ?_
  refine e_var (d := tD T) rfl ?_
  refine a_nil ?_
  refine gd lenT ⟨_, rfl, by omega, by omega, rfl, ?_, fun d hd' => ⟨t_yes ⟨rfl, rfl⟩, fun _ => ?_⟩, ?_⟩
  · rw [rng0, List.length_map, List.length_range]
    exact Nat.lt_of_le_of_lt (show R ≤ 6 by omega) (by decide)
  · rw [rng0] at hd'
    obtain ⟨a, _, rfl⟩ := List.mem_map.mp hd'
    refine e_b ?_
    refine a_cons ?_
    refine e_l ?_
    refine f_lcT_pure plD (rowF a) (fun p => .int (cell T p)) ?_
    refine f_itA ?_
    refine e_var (d := hD h) rfl ?_
    refine .inl ⟨_, .inr rfl, h, rfl, rfl, Nat.lt_of_le_of_lt fh (by decide), fun p hp => ⟨_, rfl, rfl, rfl, ?_, fun _ => ?_⟩, ?_⟩
    · refine t_tst ?_
      refine e_op ?_
      refine e_var (d := .int (p.1 : Nat)) rfl ?_
      refine e_var (d := .int (a : Nat)) rfl ?_
      exact gd (eq_nat p.1 a) ⟨_, rfl, rfl, rfl⟩
    · obtain ⟨r, g1, g2⟩ := row_ix bx (hd.hin p hp)
      refine e_op ?_
      refine e_op ?_
      refine e_var (d := tD T) rfl ?_
      refine e_var (d := .int (p.1 : Nat)) rfl ?_
      refine gd g1 ?_
      refine e_var (d := .int (p.2 : Nat)) rfl ?_
      exact gd g2 ⟨rfl, rfl⟩
    · refine a_nil ?_
      have e : (h.filter (rowF a)).map (fun p => PyData.int (cell T p)) = ((h.filter (rowF a)).map (cell T)).map .int := by rw [List.map_map]; rfl
      rw [e]
      refine gd (sum_ints _) ⟨?_, rfl⟩
      show PyData.int (su T (rowF a) h) = PyData.int (su T (rowF ((a : Int)).toNat) h)
      rw [Int.toNat_natCast]
  · rw [List.filter_eq_self.mpr (fun _ _ => rfl)]
    have e1 : (rng 0 (R : Int)).map (fun d => PyData.int (su T (rowF (natOf d)) h)) = (leftR T h R).map .int := by
      rw [rng0]
      unfold leftR
      rw [List.map_map, List.map_map]
      refine List.map_congr_left fun a _ => ?_
      show PyData.int (su T (rowF ((a : Int)).toNat) h) = _
      rw [Int.toNat_natCast]
      rfl
    rw [e1]
    show Gs (sSeq _ _ [.dat (tD T), .dat (hD h), .dat (.list ((leftR T h R).map .int)), .no, .no, .no, .no]) _ _
    refine s_seq ?_
    refine s_own ?_
    refine f_lst ?_
    refine a_nil ?_
    refine ⟨by decide, by show 6 < 7; decide, ?_⟩
    refine s_seq ?_
    refine s_for (I := fun r s => ∃ (done rest : List Nat) (v5 : SV), List.range C = done ++ rest ∧ r = rest.map (fun (k : Nat) => PyData.int (k : Int)) ∧ s = [.dat (tD T), .dat (hD h), .dat (.list ((leftR T h R).map .int)), .no, .no, v5, .own ((done.map fun c => su T (colF c) h).map .int)]) ?_ (fun d r s hI => ?_) (fun s hI => ?_)
    · refine f_r1 ?_
      refine e_b ?_
      refine a_cons ?_
      refine e_op ?_
      refine e_var (d := tD T) rfl ?_
      refine e_c ?_
      refine gd (ix_nat (k := 0) (d := rowD T[0]) (by rw [List.getElem?_map, List.getElem?_eq_getElem h1]; rfl)) ?_
      refine a_nil ?_
      refine gd lenR ⟨_, rfl, by omega, by omega, [], List.range C, _, rfl, rng0 C, rfl⟩
    · obtain ⟨done, rest, v5, hr, er, rfl⟩ := hI
      cases rest with
      | nil => cases er
      | cons a rest =>
        rw [List.map_cons] at er
        injection er with er1 er2
        subst er1 er2
        refine ⟨[.dat (tD T), .dat (hD h), .dat (.list ((leftR T h R).map .int)), .no, .no, .dat (.int (a : Nat)), .own ((done.map fun c => su T (colF c) h).map .int)], rfl, ?_⟩
        have ld : done.length ≤ 6 := by
          have := congrArg List.length hr
          rw [List.length_range, List.length_append] at this
          omega
        refine s_app (p0 := (done.map fun c => su T (colF c) h).map .int) rfl ?_
        refine e_b ?_
        refine a_cons ?_
        refine e_l ?_
        refine f_lcT_pure plD (colF a) (fun p => .int (cell T p)) ?_
        refine f_itA ?_
        refine e_var (d := hD h) rfl ?_
        refine .inl ⟨_, .inr rfl, h, rfl, rfl, Nat.lt_of_le_of_lt fh (by decide), fun p hp => ⟨_, rfl, rfl, rfl, ?_, fun _ => ?_⟩, ?_⟩
        · refine t_tst ?_
          refine e_op ?_
          refine e_var (d := .int (p.2 : Nat)) rfl ?_
          refine e_var (d := .int (a : Nat)) rfl ?_
          exact gd (eq_nat p.2 a) ⟨_, rfl, rfl, rfl⟩
        · obtain ⟨r, g1, g2⟩ := row_ix bx (hd.hin p hp)
          refine e_op ?_
          refine e_op ?_
          refine e_var (d := tD T) rfl ?_
          refine e_var (d := .int (p.1 : Nat)) rfl ?_
          refine gd g1 ?_
          refine e_var (d := .int (p.2 : Nat)) rfl ?_
          exact gd g2 ⟨rfl, rfl⟩
        · refine a_nil ?_
          have e : (h.filter (colF a)).map (fun p => PyData.int (cell T p)) = ((h.filter (colF a)).map (cell T)).map .int := by rw [List.map_map]; rfl
          rw [e]
          refine gd (sum_ints _) ⟨_, rfl, ?_, done ++ [a], rest, .dat (.int (a : Nat)), by rw [hr]; simp, rfl, ?_⟩
          · rw [List.length_map, List.length_map]
            exact Nat.lt_of_le_of_lt ld (by decide)
          · have e : ((done ++ [a]).map fun c => su T (colF c) h).map PyData.int = (done.map fun c => su T (colF c) h).map .int ++ [.int (su T (colF a) h)] := by simp
            rw [e]
            rfl
    · obtain ⟨done, rest, v5, hr, er, rfl⟩ := hI
      cases rest with
      | cons b rs => cases er
      | nil =>
        rw [List.append_nil] at hr
        refine s_seq ?_
        refine s_frz rfl ?_
        refine s_ret ?_
        refine e_op ?_
        refine e_var (d := .list ((leftR T h R).map .int)) rfl ?_
        refine e_var (d := .list ((done.map fun c => su T (colF c) h).map .int)) rfl ?_
        refine gd (a := .list ((leftR T h R).map .int ++ (done.map fun c => su T (colF c) h).map .int)) ?_ ?_
        · show (if _ then _ else _) = _
          rw [if_pos]
          have ld : done.length = C := by rw [← hr, List.length_range]
          unfold leftR
          rw [List.length_map, List.length_map, List.length_map, List.length_map, List.length_range, ld]
          exact Nat.le_trans (show R + C ≤ 12 by omega) (by decide)
        · rw [List.map_append]
          unfold leftC
          rw [hr]
end K70

/-! what the paper adds up to -/
namespace K70
open PySem PySem.Spec PyProof.Rows L2 Dl
theorem range_one (g : Nat → Int) (a : Nat) : ∀ R : Nat, ((List.range R).map fun r => if a = r then g r else 0).sum = if a < R then g a else 0
  | 0 => by simp
  | R + 1 => by
    rw [List.range_succ, List.map_append, List.sum_append, range_one g a R]
    simp only [List.map_cons, List.map_nil, List.sum_cons, List.sum_nil, Int.add_zero]
    by_cases e : a = R
    · subst e
      rw [if_neg (Nat.lt_irrefl a), if_pos rfl, if_pos (Nat.lt_succ_self a), Int.zero_add]
    · rw [if_neg e, Int.add_zero]
      by_cases l : a < R
      · rw [if_pos l, if_pos (by omega)]
      · rw [if_neg l, if_neg (by omega)]
theorem sum_two (f g : Nat → Int) : ∀ l : List Nat, (l.map fun p => f p + g p).sum = (l.map f).sum + (l.map g).sum
  | [] => rfl
  | p :: r => by rw [List.map_cons, List.map_cons, List.map_cons, List.sum_cons, List.sum_cons, List.sum_cons, sum_two f g r]; omega
theorem su_cons (T : Tb) (f : Pl → Bool) (p : Pl) (r : List Pl) : su T f (p :: r) = (if f p = true then cell T p else 0) + su T f r := by
  unfold su
  by_cases h : f p = true
  · rw [List.filter_cons_of_pos h, if_pos h, List.map_cons, List.sum_cons]
  · rw [List.filter_cons_of_neg h, if_neg h, Int.zero_add]
/-- by lines, and by places -/
theorem by_lines (T : Tb) (k : Pl → Nat) (f : Nat → Int) (R : Nat) : ∀ h : List Pl, (∀ p ∈ h, k p < R) → ((List.range R).map fun r => f r * su T (fun p => decide (k p = r)) h).sum = (h.map fun p => f (k p) * cell T p).sum
  | [], _ => by
    have : ∀ l : List Nat, (l.map fun r => f r * su T (fun p => decide (k p = r)) []).sum = 0 := fun l => by
      induction l with
      | nil => rfl
      | cons a r ih => rw [List.map_cons, List.sum_cons, ih]; simp [su]
    rw [this]
    rfl
  | p :: t, hk => by
    have e : (fun r => f r * su T (fun p => decide (k p = r)) (p :: t)) = fun r => (if k p = r then f r * cell T p else 0) + f r * su T (fun p => decide (k p = r)) t := funext fun r => by
      rw [su_cons, Int.mul_add]
      congr 1
      by_cases c : k p = r
      · rw [if_pos c, if_pos (decide_eq_true c)]
      · rw [if_neg c, if_neg (by simpa using c), Int.mul_zero]
    rw [e, sum_two, range_one (fun r => f r * cell T p), if_pos (hk p List.mem_cons_self), by_lines T k f R t fun q hq => hk q (List.mem_cons_of_mem _ hq), List.map_cons, List.sum_cons]
theorem zip_map2 (f g : Nat → Int) : ∀ l : List Nat, (l.map f).zip (l.map g) = l.map fun r => (f r, g r)
  | [] => rfl
  | a :: r => by rw [List.map_cons, List.map_cons, List.zip_cons_cons, zip_map2 f g r, List.map_cons]
def nums (rc : Pl → Bool) (tn : Int) (R C : Nat) : List Int := rowsP rc tn R ++ colsP rc tn C
theorem nums_len (rc : Pl → Bool) (tn : Int) (R C : Nat) : (nums rc tn R C).length = R + C := by
  unfold nums rowsP colsP
  rw [List.length_append, List.length_map, List.length_map, List.length_range, List.length_range]
theorem left_len (T : Tb) (h : List Pl) (R C : Nat) : (leftR T h R ++ leftC T h C).length = R + C := by
  unfold leftR leftC
  rw [List.length_append, List.length_map, List.length_map, List.length_range, List.length_range]
theorem zip_nums (T : Tb) (h : List Pl) (rc : Pl → Bool) (tn : Int) (R C : Nat) : (nums rc tn R C).zip (leftR T h R ++ leftC T h C) = ((List.range R).map fun r => (rw_ rc tn r, su T (rowF r) h)) ++ (List.range C).map fun c => (cw_ rc tn c, su T (colF c) h) := by
  unfold nums leftR leftC rowsP colsP
  rw [List.zip_append (by simp)]
  rw [← zip_map2, ← zip_map2]
  rfl
/-- the paper's sum over what is left is the count -/
theorem paper_sum {T0 T : Tb} {R C : Nat} {h : List Pl} (hd : Hd R C h) (rd : Rd T0 R C h T) {place : Pl} (at_ : place ∈ h) {tn : Int} (ht : tn = 1 ∨ tn = -1) {rc : Pl → Bool} (pp : Pp T h place tn rc) : (((nums rc tn R C).zip (leftR T0 h R ++ leftC T0 h C)).map fun q => q.1 * q.2).sum = cell T place := by
  rw [zip_nums, List.map_append, List.sum_append, List.map_map, List.map_map]
  have e1 : ((List.range R).map ((fun q : Int × Int => q.1 * q.2) ∘ fun r => (rw_ rc tn r, su T0 (rowF r) h))).sum = (h.map fun p => rw_ rc tn p.1 * cell T p).sum := by
    rw [← by_lines T (fun p => p.1) (rw_ rc tn) R h fun p hp => (hd.hin p hp).1]
    congr 1
    refine List.map_congr_left fun r _ => ?_
    show rw_ rc tn r * su T0 (rowF r) h = rw_ rc tn r * su T (rowF r) h
    rw [rd.rows r]
  have e2 : ((List.range C).map ((fun q : Int × Int => q.1 * q.2) ∘ fun c => (cw_ rc tn c, su T0 (colF c) h))).sum = (h.map fun p => cw_ rc tn p.2 * cell T p).sum := by
    rw [← by_lines T (fun p => p.2) (cw_ rc tn) C h fun p hp => (hd.hin p hp).2]
    congr 1
    refine List.map_congr_left fun c _ => ?_
    show cw_ rc tn c * su T0 (colF c) h = cw_ rc tn c * su T (colF c) h
    rw [rd.cols c]
  rw [e1, e2, ← sum_add]
  rw [← slack rd.box ht pp hd.hin hd.nd at_]
  congr 1
  refine List.map_congr_left fun p _ => ?_
  rw [Int.add_mul]
theorem law_whole_ok (i : Int) : Gd (m__law_whole [.int i]) fun r => r = .bool true := by
  unfold m__law_whole
  refine m_fnP rfl ?_
  unfold b__law_whole
  refine s_ret ?_
  refine e_and ?_
  refine e_un ?_
  refine e_var (d := .int i) rfl ?_
  refine gd (a := .bool true) rfl ⟨_, rfl, .inl ⟨rfl, ?_⟩⟩
  refine e_not ?_
  refine e_un ?_
  refine e_var (d := .int i) rfl ?_
  exact gd (a := .bool false) rfl ⟨_, rfl, rfl⟩
theorem num_small {rc : Pl → Bool} {tn : Int} (ht : tn = 1 ∨ tn = -1) {R C : Nat} {x : Int} (hx : x ∈ nums rc tn R C) : -1 ≤ x ∧ x ≤ 1 := by
  unfold nums rowsP colsP at hx
  rcases List.mem_append.mp hx with z | z
  · obtain ⟨a, _, rfl⟩ := List.mem_map.mp z
    split <;> omega
  · obtain ⟨a, _, rfl⟩ := List.mem_map.mp z
    split <;> omega
theorem nums_ix {rc : Pl → Bool} {tn : Int} {R C : Nat} {p : Pl} (hp : In R C p) : gIx (rowD (rowsP rc tn R)) (.int (p.1 : Nat)) = some (.int (rw_ rc tn p.1)) ∧ gIx (rowD (colsP rc tn C)) (.int (p.2 : Nat)) = some (.int (cw_ rc tn p.2)) := by
  refine ⟨ix_nat ?_, ix_nat ?_⟩
  · unfold rowsP
    rw [List.getElem?_map, List.getElem?_map, List.getElem?_range hp.1]
    rfl
  · unfold colsP
    rw [List.getElem?_map, List.getElem?_map, List.getElem?_range hp.2]
    rfl
end K70

/-! the law looks at a paper -/
namespace K70
open PySem PySem.Spec PyProof.Rows L2 Dl
theorem ne_same (i : Int) : gNe (.int i) (.int i) = some (.bool false) := by
  show some (PyData.bool (!(i == i))) = _
  rw [beq_self_eq_true]
  rfl
theorem ne_int (i j : Int) : gNe (.int i) (.int j) = some (.bool (!(i == j))) := rfl
theorem eq_pl (p q : Pl) : gEq (plD p) (plD q) = some (.bool (decide (p = q))) := by
  rw [← eqv_pl]
  rfl
theorem ne_nil : gNe (.list []) (.list []) = some (.bool false) := by
  rw [nu_ne (j := 1) (k := 1) (nu_lst fun d hd => by cases hd) (nu_lst fun d hd => by cases hd) (by decide) (by decide), PyData.eqv, PyData.eqvAll]
  rfl
theorem su_box {T : Tb} {R C : Nat} (bx : Box T R C) {h : List Pl} (hd : Hd R C h) (f : Pl → Bool) : 0 ≤ su T f h ∧ su T f h ≤ 360000000000 := by
  have few := hd.few bx.few.1.2 bx.few.2.2
  have l : (h.filter f).length ≤ 36 := Nat.le_trans (List.length_filter_le ..) few
  have b : ∀ x ∈ (h.filter f).map (cell T), 0 ≤ x ∧ x ≤ 10000000000 := fun x hx => by
    obtain ⟨p, hp, rfl⟩ := List.mem_map.mp hx
    exact box_cell bx (hd.hin p (List.mem_filter.mp hp).1)
  have a := sum_few fun x hx => (b x hx).2
  rw [List.length_map] at a
  unfold su
  exact ⟨sum_pos _ fun x hx => (b x hx).1, by omega⟩
theorem left_box {T : Tb} {R C : Nat} (bx : Box T R C) {h : List Pl} (hd : Hd R C h) {x : Int} (hx : x ∈ leftR T h R ++ leftC T h C) : 0 ≤ x ∧ x ≤ 360000000000 := by
  unfold leftR leftC at hx
  rcases List.mem_append.mp hx with z | z
  · obtain ⟨a, _, rfl⟩ := List.mem_map.mp z
    exact su_box bx hd _
  · obtain ⟨a, _, rfl⟩ := List.mem_map.mp z
    exact su_box bx hd _
theorem pap_0 (rc : Pl → Bool) (tn : Int) (R C : Nat) : gIx (paperD rc tn R C) (.int 0) = some (rowD (rowsP rc tn R)) := ix_nat (k := 0) rfl
theorem pap_1 (rc : Pl → Bool) (tn : Int) (R C : Nat) : gIx (paperD rc tn R C) (.int 1) = some (rowD (colsP rc tn C)) := ix_nat (k := 1) rfl
theorem law_paper_ok {T0 T : Tb} {R C : Nat} (bx : Box T0 R C) {h : List Pl} (hd : Hd R C h) (rd : Rd T0 R C h T) {place : Pl} (at_ : place ∈ h) {tn : Int} (ht : tn = 1 ∨ tn = -1) {rc : Pl → Bool} (pp : Pp T h place tn rc) : Gd (m__law_paper [tD T0, hD h, plD place, .int (cell T place), paperD rc tn R C, .int (-tn)]) fun q => q = .bool true := by
  have few := bx.few
  have fh := hd.few few.1.2 few.2.2
  have h1 : 0 < T0.length := by rw [bx.rows]; omega
  have lenT : gLen [tD T0] = some (.int (R : Nat)) := by
    show some (PyData.int ((T0.map rowD).length : Nat)) = _
    rw [List.length_map, bx.rows]
  have lenR : gLen [rowD T0[0]] = some (.int (C : Nat)) := by
    show some (PyData.int (((T0[0]).map PyData.int).length : Nat)) = _
    rw [List.length_map, bx.cols _ (List.getElem_mem h1)]
  have lenA : gLen [rowD (rowsP rc tn R)] = some (.int (R : Nat)) := by
    show some (PyData.int (((rowsP rc tn R).map PyData.int).length : Nat)) = _
    unfold rowsP
    rw [List.length_map, List.length_map, List.length_range]
  have lenB : gLen [rowD (colsP rc tn C)] = some (.int (C : Nat)) := by
    show some (PyData.int (((colsP rc tn C).map PyData.int).length : Nat)) = _
    unfold colsP
    rw [List.length_map, List.length_map, List.length_range]
  unfold m__law_paper
  refine m_fnP rfl ?_
  unfold b__law_paper
  refine s_seq ?_
  refine s_if ?_
  refine t_or ?_
  refine t_not ?_
  refine t_tst ?_
  refine e_un ?_
  refine e_var (d := paperD rc tn R C) rfl ?_
  refine gd (a := .bool true) rfl ⟨_, rfl, .inr ⟨rfl, ?_⟩⟩
  refine t_or ?_
  refine t_tst ?_
  refine e_op ?_
  refine e_b ?_
  refine a_cons ?_
  refine e_var (d := paperD rc tn R C) rfl ?_
  refine a_nil ?_
  refine gd (a := .int 2) rfl ?_
  refine e_c ?_
  refine gd (a := .bool false) rfl ⟨_, rfl, .inr ⟨rfl, ?_⟩⟩
  refine t_not ?_
  refine t_tst ?_
  refine e_un ?_
  refine e_op ?_
  refine e_var (d := paperD rc tn R C) rfl ?_
  refine e_c ?_
  refine gd (pap_0 rc tn R C) ?_
  refine gd (a := .bool true) rfl ⟨_, rfl, .inr ⟨rfl, s_nil ?_⟩⟩
  refine s_seq ?_
  refine s_if ?_
  refine t_or ?_
  refine t_not ?_
  refine t_tst ?_
  refine e_un ?_
  refine e_op ?_
  refine e_var (d := paperD rc tn R C) rfl ?_
  refine e_c ?_
  refine gd (pap_1 rc tn R C) ?_
  refine gd (a := .bool true) rfl ⟨_, rfl, .inr ⟨rfl, ?_⟩⟩
  refine t_or ?_
  refine t_tst ?_
  refine e_op ?_
  refine e_b ?_
  refine a_cons ?_
  refine e_op ?_
  refine e_var (d := paperD rc tn R C) rfl ?_
  refine e_c ?_
  refine gd (pap_0 rc tn R C) ?_
  refine a_nil ?_
  refine gd lenA ?_
  refine e_b ?_
  refine a_cons ?_
  refine e_var (d := tD T0) rfl ?_
  refine a_nil ?_
  refine gd lenT ?_
  refine gd (ne_same R) ⟨_, rfl, .inr ⟨rfl, ?_⟩⟩
  refine t_tst ?_
  refine e_op ?_
  refine e_b ?_
  refine a_cons ?_
  refine e_op ?_
  refine e_var (d := paperD rc tn R C) rfl ?_
  refine e_c ?_
  refine gd (pap_1 rc tn R C) ?_
  refine a_nil ?_
  refine gd lenB ?_
  refine e_b ?_
  refine a_cons ?_
  refine e_op ?_
  refine e_var (d := tD T0) rfl ?_
  refine e_c ?_
  refine gd (ix_nat (k := 0) (d := rowD T0[0]) (by rw [List.getElem?_map, List.getElem?_eq_getElem h1]; rfl)) ?_
  refine a_nil ?_
  refine gd lenR ?_
  refine gd (ne_same C) ⟨_, rfl, .inr ⟨rfl, s_nil ?_⟩⟩
  refine s_seq ?_
  refine s_set ?_
  refine e_op ?_
  refine e_op ?_
  refine e_var (d := paperD rc tn R C) rfl ?_
  refine e_c ?_
  refine gd (pap_0 rc tn R C) ?_
  refine e_op ?_
  refine e_var (d := paperD rc tn R C) rfl ?_
  refine e_c ?_
  refine gd (pap_1 rc tn R C) ?_
  refine gd (a := .tuple ((nums rc tn R C).map .int)) ?_ ?_
  · show (if _ then _ else _) = _
    rw [if_pos]
    · unfold nums
      rw [List.map_append]
    · unfold rowsP colsP
      rw [List.length_map, List.length_map, List.length_map, List.length_map, List.length_range, List.length_range]
      exact Nat.le_trans (show R + C ≤ 12 by omega) (by decide)
  have ln : ((nums rc tn R C).map PyData.int).length < sizeLine := by
    rw [List.length_map, nums_len]
    exact Nat.lt_of_le_of_lt (show R + C ≤ 12 by omega) (by decide)
  refine s_seq ?_
  refine s_if ?_
  refine t_tst ?_
  refine e_op ?_
  refine e_l ?_
  refine f_lc_pure (fun _ => false) (fun _ => .int 1) ?_
  refine f_itA ?_
  refine e_var (d := .tuple ((nums rc tn R C).map .int)) rfl ?_
  refine .inl ⟨_, .inr rfl, rfl, ln, fun d hd' => ⟨?_, fun z => by cases z⟩, ?_⟩
  · obtain ⟨i, _, rfl⟩ := List.mem_map.mp hd'
    refine t_not ?_
    refine t_tst ?_
    refine e_call ?_
    refine a_cons ?_
    refine e_var (d := .int i) rfl ?_
    refine a_nil ?_
    refine gd_mono (law_whole_ok i) fun q hq => ?_
    exact ⟨true, hq, rfl, rfl⟩
  rw [List.filter_eq_nil_iff.mpr (fun _ _ => by simp)]
  refine e_l ?_
  refine f_lst ?_
  refine a_nil ?_
  refine ⟨by decide, ?_⟩
  refine gd ne_nil ⟨_, rfl, .inr ⟨rfl, s_nil ?_⟩⟩
  show Gs (sSeq _ _ [.dat (tD T0), .dat (hD h), .dat (plD place), .dat (.int (cell T place)), .dat (paperD rc tn R C), .dat (.int (-tn)), .dat (.tuple ((nums rc tn R C).map .int)), .no, .no, .no, .no, .no, .no]) _ _
  refine s_seq ?_
  refine s_for (I := fun r s => ∃ (rest : List Pl) (v8 v9 v10 : SV), r = rest.map plD ∧ (∀ p ∈ rest, p ∈ h) ∧ s = [.dat (tD T0), .dat (hD h), .dat (plD place), .dat (.int (cell T place)), .dat (paperD rc tn R C), .dat (.int (-tn)), .dat (.tuple ((nums rc tn R C).map .int)), .no, v8, v9, v10, .no, .no]) ?_ (fun d r s hI => ?_) (fun s hI => ?_)
  · refine f_itA ?_
    refine e_var (d := hD h) rfl ?_
    exact .inl ⟨_, .inr rfl, h, _, _, _, rfl, fun p hp => hp, rfl⟩
  · obtain ⟨rest, v8, v9, v10, er, sub, rfl⟩ := hI
    cases rest with
    | nil => cases er
    | cons p rest =>
      rw [List.map_cons] at er
      injection er with er1 er2
      subst er1 er2
      have hp := sub p List.mem_cons_self
      have hin := hd.hin p hp
      refine ⟨[.dat (tD T0), .dat (hD h), .dat (plD place), .dat (.int (cell T place)), .dat (paperD rc tn R C), .dat (.int (-tn)), .dat (.tuple ((nums rc tn R C).map .int)), .no, .dat (.int (p.1 : Nat)), .dat (.int (p.2 : Nat)), v10, .no, .no], rfl, ?_⟩
      obtain ⟨g1, g2⟩ := nums_ix (rc := rc) (tn := tn) hin
      refine s_seq ?_
      refine s_set ?_
      refine e_op ?_
      refine e_op ?_
      refine e_op ?_
      refine e_var (d := paperD rc tn R C) rfl ?_
      refine e_c ?_
      refine gd (pap_0 rc tn R C) ?_
      refine e_var (d := .int (p.1 : Nat)) rfl ?_
      refine gd g1 ?_
      refine e_op ?_
      refine e_op ?_
      refine e_var (d := paperD rc tn R C) rfl ?_
      refine e_c ?_
      refine gd (pap_1 rc tn R C) ?_
      refine e_var (d := .int (p.2 : Nat)) rfl ?_
      refine gd g2 ?_
      refine n_add ?_
      have neg : ((rw_ rc tn p.1 + cw_ rc tn p.2) - (if decide (p = place) = true then 1 else 0)) * (-tn) ≤ 0 := by
        by_cases e : p = place
        · subst e
          rw [if_pos (decide_eq_true rfl)]
          exact (at_place ht pp).2
        · rw [if_neg (by simpa using e), Int.sub_zero]
          exact (at_other ht pp hp e (box_cell rd.box hin).1).2
      have small : -2 ≤ rw_ rc tn p.1 + cw_ rc tn p.2 ∧ rw_ rc tn p.1 + cw_ rc tn p.2 ≤ 2 := by
        unfold rw_ cw_
        rcases ht with rfl | rfl <;> split <;> split <;> decide
      generalize rw_ rc tn p.1 + cw_ rc tn p.2 = u at neg small
      refine s_if ?_
      refine t_tst ?_
      refine e_op ?_
      refine e_op ?_
      refine e_op ?_
      refine e_var (d := .int u) rfl ?_
      refine e_b ?_
      refine a_cons ?_
      refine e_op ?_
      refine e_tup ?_
      refine a_cons ?_
      refine e_var (d := .int (p.1 : Nat)) rfl ?_
      refine a_cons ?_
      refine e_var (d := .int (p.2 : Nat)) rfl ?_
      refine a_nil ?_
      refine ⟨Nat.le_of_ble_eq_true rfl, ?_⟩
      refine e_var (d := plD place) rfl ?_
      refine gd (eq_pl p place) ?_
      refine a_nil ?_
      refine gd (a := .int (if decide (p = place) = true then 1 else 0)) rfl ?_
      refine n_sub ?_
      refine e_var (d := .int (-tn)) rfl ?_
      show Gd (gMul (.int _) (.int _)) _
      have b01 : (if decide (p = place) = true then (1 : Int) else 0) = 1 ∨ (if decide (p = place) = true then (1 : Int) else 0) = 0 := by split <;> simp
      generalize (if decide (p = place) = true then (1 : Int) else 0) = z at neg b01
      refine n_mul 40 (by omega) (by omega) (by omega) (by omega) (by decide) (by decide) ?_
      refine e_c ?_
      refine gd (gt_int _ _) ⟨_, rfl, .inr ⟨decide_eq_false (by omega), s_nil ?_⟩⟩
      exact ⟨rest, _, _, _, rfl, fun q hq => sub q (List.mem_cons_of_mem _ hq), rfl⟩
  · obtain ⟨rest, v8, v9, v10, er, sub, rfl⟩ := hI
    refine s_seq ?_
    refine s_set ?_
    refine e_call ?_
    refine a_cons ?_
    refine e_var (d := tD T0) rfl ?_
    refine a_cons ?_
    refine e_var (d := hD h) rfl ?_
    refine a_nil ?_
    refine gd_mono (left_ok bx hd) fun q hq => ?_
    subst hq
    refine s_ret ?_
    refine e_op ?_
    refine e_b ?_
    refine a_cons ?_
    refine e_l ?_
    refine f_lcT_pure (fun q : Int × Int => .tuple [.int q.1, .int q.2]) (fun _ => true) (fun q => .int (q.1 * q.2)) ?_
    refine f_itZB ?_
    refine e_var (d := .tuple ((nums rc tn R C).map .int)) rfl ?_
    refine e_var (d := .list ((leftR T0 h R ++ leftC T0 h C).map .int)) rfl ?_
    refine ⟨_, _, _, _, rfl, rfl, (nums rc tn R C).zip (leftR T0 h R ++ leftC T0 h C), ?_, rfl, ?_, fun q hq => ⟨_, rfl, rfl, rfl, t_yes ⟨rfl, rfl⟩, fun _ => ?_⟩, ?_⟩
    · rw [List.zipWith_map, List.zip_eq_zipWith, List.map_zipWith]
    · rw [List.length_zip, nums_len, left_len]
      exact Nat.lt_of_le_of_lt (show min (R + C) (R + C) ≤ 12 by omega) (by decide)
    · have z := List.of_mem_zip (a := q.1) (b := q.2) hq
      have b1 := num_small ht z.1
      have b2 := left_box bx hd z.2
      refine e_op ?_
      refine e_var (d := .int q.1) rfl ?_
      refine e_var (d := .int q.2) rfl ?_
      show Gd (gMul (.int _) (.int _)) _
      exact n_mul 40 (by omega) (by omega) (by omega) (by omega) (by decide) (by decide) ⟨rfl, rfl⟩
    · refine a_nil ?_
      rw [List.filter_eq_self.mpr (fun _ _ => rfl)]
      have e : ((nums rc tn R C).zip (leftR T0 h R ++ leftC T0 h C)).map (fun q => PyData.int (q.1 * q.2)) = (((nums rc tn R C).zip (leftR T0 h R ++ leftC T0 h C)).map fun q => q.1 * q.2).map .int := by rw [List.map_map]; rfl
      rw [e]
      refine gd (sum_ints _) ?_
      rw [paper_sum hd rd at_ ht pp]
      refine e_var (d := .int (cell T place)) rfl ?_
      refine gd (eq_int _ _) ?_
      rw [beq_self_eq_true]
end K70

/-! the law looks at a table, and at what was told -/
namespace K70
open PySem PySem.Spec PyProof.Rows L2 Dl
theorem mem_num {α : Type} {l : List α} {i : Nat} {x : α} (h : (i, x) ∈ (List.range l.length).zip l) : l[i]? = some x := by
  obtain ⟨j, hj⟩ := List.mem_iff_getElem?.mp h
  rw [List.getElem?_zip_eq_some] at hj
  obtain ⟨h1, h2⟩ := hj
  have lt := (List.getElem?_eq_some_iff.mp h1).1
  rw [List.length_range] at lt
  rw [List.getElem?_range lt] at h1
  cases h1
  exact h2
theorem num_cell {T : Tb} {R C : Nat} (bx : Box T R C) {i j : Nat} {r : List Int} {x : Int} (hi : T[i]? = some r) (hj : r[j]? = some x) : In R C (i, j) ∧ cell T (i, j) = x := by
  obtain ⟨l1, e1⟩ := List.getElem?_eq_some_iff.mp hi
  obtain ⟨l2, e2⟩ := List.getElem?_eq_some_iff.mp hj
  refine ⟨⟨by rw [← bx.rows]; exact l1, ?_⟩, ?_⟩
  · have : r ∈ T := by rw [← e1]; exact List.getElem_mem l1
    rw [← bx.cols r this]
    exact l2
  · show (T.getD i []).getD j 0 = x
    have a : T.getD i [] = r := by rw [List.getD_eq_getElem?_getD, hi]; rfl
    rw [a, List.getD_eq_getElem?_getD, hj]
    rfl
theorem can_be_ok {T0 T : Tb} {R C : Nat} (bx : Box T0 R C) {h : List Pl} (hd : Hd R C h) (rd : Rd T0 R C h T) : Gd (m__law_can_be [tD T0, hD h, tD T]) fun q => q = .bool true := by
  have few := bx.few
  have fh := hd.few few.1.2 few.2.2
  have h1 : 0 < T0.length := by rw [bx.rows]; omega
  have lenT : ∀ {T : Tb}, Box T R C → gLen [tD T] = some (.int (R : Nat)) := fun {T} bx => by
    show some (PyData.int ((T.map rowD).length : Nat)) = _
    rw [List.length_map, bx.rows]
  have lenR : ∀ {T : Tb} {r : List Int}, Box T R C → r ∈ T → gLen [rowD r] = some (.int (C : Nat)) := fun {T r} bx hr => by
    show some (PyData.int ((r.map PyData.int).length : Nat)) = _
    rw [List.length_map, bx.cols _ hr]
  unfold m__law_can_be
  refine m_fnP rfl ?_
  unfold b__law_can_be
  refine s_seq ?_
  refine s_if ?_
  refine t_or ?_
  refine t_not ?_
  refine t_tst ?_
  refine e_un ?_
  refine e_var (d := tD T) rfl ?_
  refine gd (a := .bool true) rfl ⟨_, rfl, .inr ⟨rfl, ?_⟩⟩
  refine t_tst ?_
  refine e_op ?_
  refine e_b ?_
  refine a_cons ?_
  refine e_var (d := tD T) rfl ?_
  refine a_nil ?_
  refine gd (lenT rd.box) ?_
  refine e_b ?_
  refine a_cons ?_
  refine e_var (d := tD T0) rfl ?_
  refine a_nil ?_
  refine gd (lenT bx) ?_
  refine gd (ne_same R) ⟨_, rfl, .inr ⟨rfl, s_nil ?_⟩⟩
  refine s_seq ?_
  refine s_for (I := fun r s => ∃ (rest : List (Nat × List Int)) (v3 v4 v5 v6 : SV), r = rest.map (fun q => .tuple [.int (q.1 : Nat), rowD q.2]) ∧ (∀ q ∈ rest, T[q.1]? = some q.2) ∧ s = [.dat (tD T0), .dat (hD h), .dat (tD T), v3, v4, v5, v6]) ?_ (fun d r s hI => ?_) (fun s hI => ?_)
  · refine f_itE ?_
    refine e_var (d := tD T) rfl ?_
    exact ⟨_, .inr rfl, (List.range T.length).zip T, _, _, _, _, numd_map rowD T, fun q hq => mem_num hq, rfl⟩
  · obtain ⟨rest, v3, v4, v5, v6, er, sub, rfl⟩ := hI
    cases rest with
    | nil => cases er
    | cons q rest =>
      rw [List.map_cons] at er
      injection er with er1 er2
      subst er1 er2
      have hq := sub q List.mem_cons_self
      have hm : q.2 ∈ T := List.mem_of_getElem? hq
      refine ⟨[.dat (tD T0), .dat (hD h), .dat (tD T), .dat (.int (q.1 : Nat)), .dat (rowD q.2), v5, v6], rfl, ?_⟩
      refine s_seq ?_
      refine s_if ?_
      refine t_or ?_
      refine t_not ?_
      refine t_tst ?_
      refine e_un ?_
      refine e_var (d := rowD q.2) rfl ?_
      refine gd (a := .bool true) rfl ⟨_, rfl, .inr ⟨rfl, ?_⟩⟩
      refine t_tst ?_
      refine e_op ?_
      refine e_b ?_
      refine a_cons ?_
      refine e_var (d := rowD q.2) rfl ?_
      refine a_nil ?_
      refine gd (lenR rd.box hm) ?_
      refine e_b ?_
      refine a_cons ?_
      refine e_op ?_
      refine e_var (d := tD T0) rfl ?_
      refine e_c ?_
      refine gd (ix_nat (k := 0) (d := rowD T0[0]) (by rw [List.getElem?_map, List.getElem?_eq_getElem h1]; rfl)) ?_
      refine a_nil ?_
      refine gd (lenR bx (List.getElem_mem h1)) ?_
      refine gd (ne_same C) ⟨_, rfl, .inr ⟨rfl, s_nil ?_⟩⟩
      refine s_for (I := fun r s => ∃ (rs : List (Nat × Int)) (v5 v6 : SV), r = rs.map (fun c => .tuple [.int (c.1 : Nat), .int c.2]) ∧ (∀ c ∈ rs, q.2[c.1]? = some c.2) ∧ s = [.dat (tD T0), .dat (hD h), .dat (tD T), .dat (.int (q.1 : Nat)), .dat (rowD q.2), v5, v6]) ?_ (fun d r s hI => ?_) (fun s hI => ?_)
      · refine f_itE ?_
        refine e_var (d := rowD q.2) rfl ?_
        exact ⟨_, .inr rfl, (List.range q.2.length).zip q.2, _, _, numd_map PyData.int q.2, fun c hc => mem_num hc, rfl⟩
      · obtain ⟨rs, v5, v6, er, sub2, rfl⟩ := hI
        cases rs with
        | nil => cases er
        | cons c rs =>
          rw [List.map_cons] at er
          injection er with er1 er2
          subst er1 er2
          have hc := sub2 c List.mem_cons_self
          obtain ⟨hin, ec⟩ := num_cell rd.box hq hc
          have pos := (box_cell rd.box hin).1
          rw [ec] at pos
          refine ⟨[.dat (tD T0), .dat (hD h), .dat (tD T), .dat (.int (q.1 : Nat)), .dat (rowD q.2), .dat (.int (c.1 : Nat)), .dat (.int c.2)], rfl, ?_⟩
          refine s_seq ?_
          refine s_if ?_
          refine t_or ?_
          refine t_not ?_
          refine t_tst ?_
          refine e_call ?_
          refine a_cons ?_
          refine e_var (d := .int c.2) rfl ?_
          refine a_nil ?_
          refine gd_mono (law_whole_ok c.2) fun z hz => ?_
          refine ⟨true, hz, .inr ⟨rfl, ?_⟩⟩
          refine t_tst ?_
          refine e_op ?_
          refine e_var (d := .int c.2) rfl ?_
          refine e_c ?_
          refine gd (lt_0 c.2) ⟨_, rfl, .inr ⟨decide_eq_false (by omega), s_nil ?_⟩⟩
          have go : ∀ {st : Sl}, st = [.dat (tD T0), .dat (hD h), .dat (tD T), .dat (.int (q.1 : Nat)), .dat (rowD q.2), .dat (.int (c.1 : Nat)), .dat (.int c.2)] → ∃ (rs' : List (Nat × Int)) (v5 v6 : SV), rs.map (fun c => PyData.tuple [.int (c.1 : Nat), .int c.2]) = rs'.map (fun c => .tuple [.int (c.1 : Nat), .int c.2]) ∧ (∀ c ∈ rs', q.2[c.1]? = some c.2) ∧ st = [.dat (tD T0), .dat (hD h), .dat (tD T), .dat (.int (q.1 : Nat)), .dat (rowD q.2), v5, v6] := fun {st} e => ⟨rs, _, _, rfl, fun c hc => sub2 c (List.mem_cons_of_mem _ hc), e⟩
          refine s_if ?_
          refine t_and ?_
          refine t_tst ?_
          refine e_op ?_
          refine e_tup ?_
          refine a_cons ?_
          refine e_var (d := .int (q.1 : Nat)) rfl ?_
          refine a_cons ?_
          refine e_var (d := .int (c.1 : Nat)) rfl ?_
          refine a_nil ?_
          refine ⟨Nat.le_of_ble_eq_true rfl, ?_⟩
          refine e_var (d := hD h) rfl ?_
          refine gd (in_places few.1.2 few.2.2 hd.hin hin true) ⟨_, rfl, ?_⟩
          by_cases mem : (q.1, c.1) ∈ h
          · refine .inr ⟨by rw [if_pos rfl, decide_eq_true mem]; rfl, .inr ⟨rfl, s_nil (go rfl)⟩⟩
          · refine .inl ⟨by rw [if_pos rfl, decide_eq_false mem]; rfl, ?_⟩
            obtain ⟨rr, g1, g2⟩ := row_ix bx hin
            have same : cell T0 (q.1, c.1) = c.2 := by rw [← rd.out _ hin mem, ec]
            rw [same] at g2
            refine t_tst ?_
            refine e_op ?_
            refine e_var (d := .int c.2) rfl ?_
            refine e_op ?_
            refine e_op ?_
            refine e_var (d := tD T0) rfl ?_
            refine e_var (d := .int (q.1 : Nat)) rfl ?_
            refine gd g1 ?_
            refine e_var (d := .int (c.1 : Nat)) rfl ?_
            refine gd g2 ?_
            exact gd (ne_same c.2) ⟨_, rfl, .inr ⟨rfl, s_nil (go rfl)⟩⟩
      · obtain ⟨rs, v5, v6, er, sub2, rfl⟩ := hI
        exact ⟨rest, _, _, _, _, rfl, fun q hq => sub q (List.mem_cons_of_mem _ hq), rfl⟩
  · obtain ⟨rest, v3, v4, v5, v6, er, sub, rfl⟩ := hI
    refine s_ret ?_
    refine e_op ?_
    refine e_call ?_
    refine a_cons ?_
    refine e_var (d := tD T) rfl ?_
    refine a_cons ?_
    refine e_var (d := hD h) rfl ?_
    refine a_nil ?_
    refine gd_mono (left_ok rd.box hd) fun z hz => ?_
    subst hz
    refine e_call ?_
    refine a_cons ?_
    refine e_var (d := tD T0) rfl ?_
    refine a_cons ?_
    refine e_var (d := hD h) rfl ?_
    refine a_nil ?_
    refine gd_mono (left_ok bx hd) fun z hz => ?_
    subst hz
    have e : leftR T h R ++ leftC T h C = leftR T0 h R ++ leftC T0 h C := by
      unfold leftR leftC
      rw [List.map_congr_left (g := fun r => su T0 (rowF r) h) fun r _ => rd.rows r, List.map_congr_left (l := List.range C) (g := fun c => su T0 (colF c) h) fun c _ => rd.cols c]
    rw [e]
    have n : Nu 1 (.list ((leftR T0 h R ++ leftC T0 h C).map .int)) := nu_lst fun d hd' => by
      obtain ⟨x, hx, rfl⟩ := List.mem_map.mp hd'
      have b := left_box bx hd hx
      exact nu_small (by omega) (by omega)
    refine gd (nu_eq n n (by decide) (by decide)) ?_
    rw [nu_refl n]
def tolD (T1 T2 : Tb) (rc1 rc2 : Pl → Bool) (place : Pl) (R C : Nat) : PyData := .tuple [.int (cell T1 place), tD T1, paperD rc1 (-1) R C, .int (cell T2 place), tD T2, paperD rc2 1 R C]
theorem shows_ok {T0 T1 T2 : Tb} {R C : Nat} (bx : Box T0 R C) {h : List Pl} (hd : Hd R C h) {place : Pl} (at_ : place ∈ h) {rc1 rc2 : Pl → Bool} (k1 : Rd T0 R C h T1 ∧ Pp T1 h place (-1) rc1) (k2 : Rd T0 R C h T2 ∧ Pp T2 h place 1 rc2) : Gd (m__law_shows [tD T0, hD h, plD place, tolD T1 T2 rc1 rc2 place R C]) fun q => q = .bool true := by
  have hin := hd.hin place at_
  unfold m__law_shows
  refine m_fnP rfl ?_
  unfold b__law_shows
  refine s_seq ?_
  refine s_if ?_
  refine t_or ?_
  refine t_not ?_
  refine t_tst ?_
  refine e_un ?_
  refine e_var (d := tolD T1 T2 rc1 rc2 place R C) rfl ?_
  refine gd (a := .bool true) rfl ⟨_, rfl, .inr ⟨rfl, ?_⟩⟩
  refine t_tst ?_
  refine e_op ?_
  refine e_b ?_
  refine a_cons ?_
  refine e_var (d := tolD T1 T2 rc1 rc2 place R C) rfl ?_
  refine a_nil ?_
  refine gd (a := .int 6) rfl ?_
  refine e_c ?_
  refine gd (ne_same 6) ⟨_, rfl, .inr ⟨rfl, s_nil ?_⟩⟩
  refine s_seq ?_
  refine s_for (I := fun r s => (∀ d ∈ r, d = .tuple [.int 0, .int 1] ∨ d = .tuple [.int 3, .int (-1)]) ∧ ∃ (v4 v5 v6 v7 v8 : SV), s = [.dat (tD T0), .dat (hD h), .dat (plD place), .dat (tolD T1 T2 rc1 rc2 place R C), v4, v5, v6, v7, v8]) ?_ (fun d r s hI => ?_) (fun s hI => ?_)
  · refine f_itA ?_
    refine e_tup ?_
    refine a_cons ?_
    refine e_tup ?_
    refine a_cons ?_
    refine e_c ?_
    refine a_cons ?_
    refine e_c ?_
    refine a_nil ?_
    refine ⟨Nat.le_of_ble_eq_true rfl, ?_⟩
    refine a_cons ?_
    refine e_tup ?_
    refine a_cons ?_
    refine e_c ?_
    refine a_cons ?_
    refine e_un ?_
    refine e_c ?_
    refine gd (a := .int (-1)) rfl ?_
    refine a_nil ?_
    refine ⟨Nat.le_of_ble_eq_true rfl, ?_⟩
    refine a_nil ?_
    refine ⟨Nat.le_of_ble_eq_true rfl, ?_⟩
    refine .inl ⟨_, .inr rfl, fun d hd => ?_, _, _, _, _, _, rfl⟩
    simp only [List.mem_cons, List.not_mem_nil, or_false] at hd
    exact hd
  · obtain ⟨hr, v4, v5, v6, v7, v8, rfl⟩ := hI
    have hr' := fun e he => hr e (List.mem_cons_of_mem _ he)
    have main : ∀ {T : Tb} {rc : Pl → Bool} {tn a : Int}, (tn = 1 ∨ tn = -1) → Rd T0 R C h T → Pp T h place tn rc → gSl (tolD T1 T2 rc1 rc2 place R C) (some a) (some (a + 3)) = some (.tuple [.int (cell T place), tD T, paperD rc tn R C]) → d = .tuple [.int a, .int (-tn)] → ∃ s2, tgT [tgN 4, tgN 5] d [.dat (tD T0), .dat (hD h), .dat (plD place), .dat (tolD T1 T2 rc1 rc2 place R C), v4, v5, v6, v7, v8] = some s2 ∧ Gs (sSeq (sAsg (dSl (dVar 3) (oS (dVar 4)) (oS (dOp gAdd (dVar 4) (dC (.int 3))))) (tgT [(tgN 6), (tgN 7), (tgN 8)]))
  (sSeq (sIf (dOrT (dNotT (dTst (dCall m__law_whole (aCons (dVar 6) aNil)))) (dNotT (dTst (dCall m__law_can_be (aCons (dVar 0) (aCons (dVar 1) (aCons (dVar 7) aNil)))))))
  (sRet (dC (.bool false)))
  sNil)
  (sSeq (sIf (dTst (dOp gNe (dOp gIx (dOp gIx (dVar 7) (dOp gIx (dVar 2) (dC (.int 0)))) (dOp gIx (dVar 2) (dC (.int 1)))) (dVar 6)))
  (sRet (dC (.bool false)))
  sNil)
  (sIf (dNotT (dTst (dCall m__law_paper (aCons (dVar 0) (aCons (dVar 1) (aCons (dVar 2) (aCons (dVar 6) (aCons (dVar 8) (aCons (dVar 5) aNil)))))))))
  (sRet (dC (.bool false)))
  sNil))) s2) (fun s3 => (∀ d ∈ r, d = .tuple [.int 0, .int 1] ∨ d = .tuple [.int 3, .int (-1)]) ∧ ∃ (v4 v5 v6 v7 v8 : SV), s3 = [.dat (tD T0), .dat (hD h), .dat (plD place), .dat (tolD T1 T2 rc1 rc2 place R C), v4, v5, v6, v7, v8]) (fun d _ => d = .bool true) := by
      intro T rc tn a ht rd pp sl ed
      subst ed
      refine ⟨[.dat (tD T0), .dat (hD h), .dat (plD place), .dat (tolD T1 T2 rc1 rc2 place R C), .dat (.int a), .dat (.int (-tn)), v6, v7, v8], rfl, ?_⟩
      refine s_seq ?_
      refine s_asg ?_
      refine e_sl ?_
      refine e_var (d := tolD T1 T2 rc1 rc2 place R C) rfl ?_
      refine o_s ?_
      refine e_var (d := .int a) rfl ?_
      refine ⟨a, rfl, ?_⟩
      refine o_s ?_
      refine e_op ?_
      refine e_var (d := .int a) rfl ?_
      refine e_c ?_
      refine n_add ?_
      refine ⟨a + 3, rfl, ?_⟩
      refine gd sl ?_
      refine gd (a := [.dat (tD T0), .dat (hD h), .dat (plD place), .dat (tolD T1 T2 rc1 rc2 place R C), .dat (.int a), .dat (.int (-tn)), .dat (.int (cell T place)), .dat (tD T), .dat (paperD rc tn R C)]) rfl ?_
      refine s_seq ?_
      refine s_if ?_
      refine t_or ?_
      refine t_not ?_
      refine t_tst ?_
      refine e_call ?_
      refine a_cons ?_
      refine e_var (d := .int (cell T place)) rfl ?_
      refine a_nil ?_
      refine gd_mono (law_whole_ok _) fun z hz => ?_
      refine ⟨true, hz, .inr ⟨rfl, ?_⟩⟩
      refine t_not ?_
      refine t_tst ?_
      refine e_call ?_
      refine a_cons ?_
      refine e_var (d := tD T0) rfl ?_
      refine a_cons ?_
      refine e_var (d := hD h) rfl ?_
      refine a_cons ?_
      refine e_var (d := tD T) rfl ?_
      refine a_nil ?_
      refine gd_mono (can_be_ok bx hd rd) fun z hz => ?_
      refine ⟨true, hz, .inr ⟨rfl, s_nil ?_⟩⟩
      obtain ⟨rr, g1, g2⟩ := row_ix rd.box hin
      refine s_seq ?_
      refine s_if ?_
      refine t_tst ?_
      refine e_op ?_
      refine e_op ?_
      refine e_op ?_
      refine e_var (d := tD T) rfl ?_
      refine e_op ?_
      refine e_var (d := plD place) rfl ?_
      refine e_c ?_
      refine gd (pl_0 place) ?_
      refine gd g1 ?_
      refine e_op ?_
      refine e_var (d := plD place) rfl ?_
      refine e_c ?_
      refine gd (pl_1 place) ?_
      refine gd g2 ?_
      refine e_var (d := .int (cell T place)) rfl ?_
      refine gd (ne_same _) ⟨_, rfl, .inr ⟨rfl, s_nil ?_⟩⟩
      refine s_if ?_
      refine t_not ?_
      refine t_tst ?_
      refine e_call ?_
      refine a_cons ?_
      refine e_var (d := tD T0) rfl ?_
      refine a_cons ?_
      refine e_var (d := hD h) rfl ?_
      refine a_cons ?_
      refine e_var (d := plD place) rfl ?_
      refine a_cons ?_
      refine e_var (d := .int (cell T place)) rfl ?_
      refine a_cons ?_
      refine e_var (d := paperD rc tn R C) rfl ?_
      refine a_cons ?_
      refine e_var (d := .int (-tn)) rfl ?_
      refine a_nil ?_
      refine gd_mono (law_paper_ok bx hd rd at_ ht pp) fun z hz => ?_
      exact ⟨true, hz, .inr ⟨rfl, s_nil ⟨hr', _, _, _, _, _, rfl⟩⟩⟩
    rcases hr d List.mem_cons_self with e | e
    · exact main (T := T1) (rc := rc1) (tn := -1) (a := 0) (.inr rfl) k1.1 k1.2 rfl e
    · exact main (T := T2) (rc := rc2) (tn := 1) (a := 3) (.inl rfl) k2.1 k2.2 rfl e
  · obtain ⟨_, v4, v5, v6, v7, v8, rfl⟩ := hI
    refine s_ret ?_
    refine e_c ?_
    rfl
end K70

/-! counts and hidden places as the law draws them -/
namespace K70
open PySem PySem.Spec PyProof.Rows L2 Dl
def ups (k n : Nat) : List PyData := (List.range' k (n - k)).map fun (j : Nat) => PyData.int (j : Int)
theorem ups_cons {d : PyData} {r : List PyData} {k n : Nat} (h : d :: r = ups k n) : k < n ∧ d = .int (k : Nat) ∧ r = ups (k + 1) n := by
  unfold ups at h
  by_cases c : k < n
  · have e : n - k = (n - (k + 1)) + 1 := by omega
    rw [e, List.range'_succ, List.map_cons] at h
    injection h with h1 h2
    exact ⟨c, h1, h2⟩
  · rw [show n - k = 0 from by omega] at h
    cases h
theorem ups_nil {k n : Nat} (h : [] = ups k n) (l : k ≤ n) : k = n := by
  have := congrArg List.length h
  unfold ups at this
  rw [List.length_map, List.length_range'] at this
  simp at this
  omega
theorem rng_ups (n : Nat) : rng 0 (n : Int) = ups 0 n := by
  rw [rng0]
  unfold ups
  rw [Nat.sub_zero, List.range_eq_range']
theorem ix_list (ds : List PyData) {r : Int} {D : PyData → Prop} (h0 : 0 ≤ r) (h : r < ds.length) (k : ∀ d ∈ ds, D d) : Gd (gIx (.list ds) (.int r)) D := by
  have l : r.toNat < ds.length := by omega
  refine gd (a := ds[r.toNat]) ?_ (k _ (List.getElem_mem l))
  show atI ds r = _
  unfold atI ixN
  rw [if_pos h0, if_pos h, Option.bind_some, List.getElem?_eq_getElem l]
theorem billion {D : PyData → Prop} (h : D (.int 1000000000)) : Gd (gPow (.int 10) (.int 9)) D := by
  refine n_pow (b := 9) 4 (by decide) (by decide) (by decide) (by decide) fun _ => ?_
  have e : (10 : Int) ^ 9 = 1000000000 := by decide
  rw [e]
  exact h
/-- what stands in a slot that a loop fills -/
def Wv (v : SV) : Prop := v = .no ∨ ∃ d, v = .dat d
theorem Wv.up {v : SV} (h : Wv v) (p : List PyData) : potUp p v = v := by
  rcases h with rfl | ⟨d, rfl⟩ <;> rfl
theorem Wv.no : Wv .no := .inl rfl
theorem Wv.dat (d : PyData) : Wv (.dat d) := .inr ⟨d, rfl⟩
def CS (p : List PyData) (R C : Nat) (way : Int) (F : List PyData) (v5 v6 v7 v8 : SV) : Sl := [.pot p, .dat (.int (R : Nat)), .dat (.int (C : Nat)), .dat (.int way), .own F, v5, v6, v7, v8]
theorem setCS {p p1 : List PyData} {R C : Nat} {way : Int} {F L : List PyData} {d5 d7 : PyData} {v8 : SV} (w : Wv v8) : setC (CS p R C way F (.dat d5) (.own L) (.dat d7) v8) 0 p1 = CS p1 R C way F (.dat d5) (.own L) (.dat d7) v8 := by
  show [SV.pot p1, .dat (.int (R : Nat)), .dat (.int (C : Nat)), .dat (.int way), .own F, .dat d5, .own L, .dat d7, potUp p1 v8] = _
  rw [w.up]
  rfl
def cellC : DS := (sSeq (sSet 8 (dOp gMulA (dCallM m__law_take 0 (aCons (dC (.int 8)) aNil)) (dB gInt1 (aCons (dOp gGt (dCallM m__law_take 0 (aCons (dC (.int 3)) aNil)) (dC (.int 0))) aNil))))
  (sApp 6 (dOp gIx (dL (fLst (aCons (dVar 8) (aCons (dC (.int 0)) (aCons (dCallM m__law_take 0 (aCons (dC (.int 3)) aNil)) (aCons (dCallM m__law_take 0 (aCons (dOp gAdd (dOp gPow (dC (.int 10)) (dC (.int 9))) (dC (.int 1))) aNil)) (aCons (dOp gSub (dOp gPow (dC (.int 10)) (dC (.int 9))) (dVar 8)) aNil))))))) (dVar 3))))
theorem cellC_ok {n : Nat} {p : List PyData} (hp : Pot n p) (hn : n < 900000) {R C : Nat} {way : Int} (hw : 0 ≤ way ∧ way < 5) {F : List PyData} {L : List Int} (lL : L.length ≤ 6) {d5 d7 : PyData} {v8 : SV} (w : Wv v8) {N : Sl → Prop} {Q : PyData → Sl → Prop}
    (k : ∀ (p1 : List PyData) (x : Int) (d8 : PyData), Pot (n + 4) p1 → 0 ≤ x → x ≤ 1000000000 → N (CS p1 R C way F (.dat d5) (.own ((L ++ [x]).map .int)) (.dat d7) (.dat d8))) :
    Gs (cellC (CS p R C way F (.dat d5) (.own (L.map .int)) (.dat d7) v8)) N Q := by
  unfold cellC
  refine s_seq ?_
  refine s_set ?_
  refine e_op ?_
  refine e_callM (p0 := p) rfl ?_
  refine a_cons ?_
  refine e_c ?_
  refine a_nil ?_
  refine ⟨p, rfl, ?_⟩
  refine pot_at hp (by omega) (by decide) (by decide) fun r1 p1 a1 b1 hp1 => ?_
  rw [setCS w]
  refine e_b ?_
  refine a_cons ?_
  refine e_op ?_
  refine e_callM (p0 := p1) rfl ?_
  refine a_cons ?_
  refine e_c ?_
  refine a_nil ?_
  refine ⟨p1, rfl, ?_⟩
  refine pot_at hp1 (by omega) (by decide) (by decide) fun r2 p2 a2 b2 hp2 => ?_
  rw [setCS w]
  refine e_c ?_
  refine gd (gt_int r2 0) ?_
  refine a_nil ?_
  refine gd (a := .int (if decide (0 < r2) = true then 1 else 0)) rfl ?_
  have b01 : (if decide (0 < r2) = true then (1 : Int) else 0) = 1 ∨ (if decide (0 < r2) = true then (1 : Int) else 0) = 0 := by split <;> simp
  generalize (if decide (0 < r2) = true then (1 : Int) else 0) = z at b01
  show Gd (gMul (.int _) (.int _)) _
  refine n_mul 40 (by omega) (by omega) (by omega) (by omega) (by decide) (by decide) ?_
  have few : 0 ≤ r1 * z ∧ r1 * z ≤ 7 := by
    rcases b01 with rfl | rfl
    · omega
    · omega
  generalize r1 * z = x at few
  show Gs (sApp _ _ (CS p2 R C way F (.dat d5) (.own (L.map .int)) (.dat d7) (.dat (.int x)))) _ _
  refine s_app (p0 := L.map .int) rfl ?_
  refine e_op ?_
  refine e_l ?_
  refine f_lst ?_
  refine a_cons ?_
  refine e_var (d := .int x) rfl ?_
  refine a_cons ?_
  refine e_c ?_
  refine a_cons ?_
  refine e_callM (p0 := p2) rfl ?_
  refine a_cons ?_
  refine e_c ?_
  refine a_nil ?_
  refine ⟨p2, rfl, ?_⟩
  refine pot_at hp2 (by omega) (by decide) (by decide) fun r3 p3 a3 b3 hp3 => ?_
  rw [setCS (.dat _)]
  refine a_cons ?_
  refine e_callM (p0 := p3) rfl ?_
  refine a_cons ?_
  refine e_op ?_
  refine e_op ?_
  refine e_c ?_
  refine e_c ?_
  refine billion ?_
  refine e_c ?_
  refine n_add ?_
  refine a_nil ?_
  refine ⟨p3, rfl, ?_⟩
  refine pot_at hp3 (by omega) (by decide) (by decide) fun r4 p4 a4 b4 hp4 => ?_
  rw [setCS (.dat _)]
  refine a_cons ?_
  refine e_op ?_
  refine e_op ?_
  refine e_c ?_
  refine e_c ?_
  refine billion ?_
  refine e_var (d := .int x) rfl ?_
  refine n_sub ?_
  refine a_nil ?_
  refine ⟨Nat.le_of_ble_eq_true rfl, ?_⟩
  refine e_var (d := .int way) rfl ?_
  refine ix_list _ hw.1 hw.2 fun d hd => ?_
  have : ∃ y : Int, d = .int y ∧ 0 ≤ y ∧ y ≤ 1000000000 := by
    simp only [List.mem_cons, List.not_mem_nil, or_false] at hd
    have few2 : (1000000000 : Int) + 1 = 1000000001 := by decide
    rw [few2] at b4
    rcases hd with rfl | rfl | rfl | rfl | rfl
    · exact ⟨_, rfl, by omega, by omega⟩
    · exact ⟨_, rfl, by omega, by omega⟩
    · exact ⟨_, rfl, by omega, by omega⟩
    · exact ⟨_, rfl, by omega, by omega⟩
    · exact ⟨_, rfl, by omega, by omega⟩
  obtain ⟨y, rfl, y0, y1⟩ := this
  refine ⟨L.map .int, rfl, ?_, ?_⟩
  · rw [List.length_map]
    exact Nat.lt_of_le_of_lt lL (by decide)
  · have e : L.map PyData.int ++ [.int y] = (L ++ [y]).map .int := by simp
    rw [e]
    exact k p4 y _ (hp4.mono (by omega)) y0 y1
def Rows (C : Nat) (T : Tb) : Prop := ∀ r ∈ T, r.length = C ∧ ∀ x ∈ r, 0 ≤ x ∧ x ≤ 1000000000
theorem counts_ok {n : Nat} {pd : List PyData} (h : Pot n pd) (hn : n < 800000) : Gd (m__law_counts pd []) fun q => ∃ (T : Tb) (R C : Nat), q.1 = tD T ∧ Box T R C ∧ (∀ r ∈ T, ∀ x ∈ r, x ≤ 1000000000) ∧ Pot (n + 200) q.2 := by
  unfold m__law_counts
  refine m_fnM rfl ?_
  unfold b__law_counts
  refine s_seq ?_
  refine s_par ?_
  refine e_op ?_
  refine e_c ?_
  refine e_callM (p0 := pd) rfl ?_
  refine a_cons ?_
  refine e_c ?_
  refine a_nil ?_
  refine ⟨pd, rfl, ?_⟩
  refine pot_at h (by omega) (by decide) (by decide) fun r1 p1 a1 b1 hp1 => ?_
  refine n_add ?_
  refine e_op ?_
  refine e_c ?_
  refine e_callM (p0 := p1) rfl ?_
  refine a_cons ?_
  refine e_c ?_
  refine a_nil ?_
  refine ⟨p1, rfl, ?_⟩
  refine pot_at hp1 (by omega) (by decide) (by decide) fun r2 p2 a2 b2 hp2 => ?_
  refine n_add ?_
  refine s_seq ?_
  refine s_set ?_
  refine e_callM (p0 := p2) rfl ?_
  refine a_cons ?_
  refine e_c ?_
  refine a_nil ?_
  refine ⟨p2, rfl, ?_⟩
  refine pot_at hp2 (by omega) (by decide) (by decide) fun way p3 a3 b3 hp3 => ?_
  obtain ⟨R, eR⟩ : ∃ R : Nat, (R : Int) = 1 + r1 := ⟨(1 + r1).toNat, by omega⟩
  obtain ⟨C, eC⟩ : ∃ C : Nat, (C : Int) = 1 + r2 := ⟨(1 + r2).toNat, by omega⟩
  rw [← eR, ← eC]
  have fR : 1 ≤ R ∧ R ≤ 6 := by omega
  have fC : 1 ≤ C ∧ C ≤ 6 := by omega
  refine s_seq ?_
  refine s_own ?_
  refine f_lst ?_
  refine a_nil ?_
  refine ⟨by decide, by show 4 < 9; decide, ?_⟩
  show Gs (sSeq _ _ (CS p3 R C way [] .no .no .no .no)) _ _
  refine s_seq ?_
  refine s_for (I := fun r s => ∃ (k : Nat) (p : List PyData) (T : Tb) (v5 v6 v7 v8 : SV), r = ups k R ∧ k ≤ R ∧ T.length = k ∧ Rows C T ∧ Pot (n + 3 + 24 * k) p ∧ (Wv v7 ∧ Wv v8) ∧ s = CS p R C way (T.map rowD) v5 v6 v7 v8) ?_ (fun d r s hI => ?_) (fun s hI => ?_)
  · refine f_r1 ?_
    refine e_var (d := .int (R : Nat)) rfl ?_
    exact ⟨_, rfl, by omega, by omega, 0, p3, [], _, _, _, _, rng_ups R, Nat.zero_le _, rfl, fun r hr => (by cases hr), hp3.mono (by omega), ⟨.no, .no⟩, rfl⟩
  · obtain ⟨k, p, T, v5, v6, v7, v8, er, lk, lT, ok, hp, ⟨w7, w8⟩, rfl⟩ := hI
    obtain ⟨ck, rfl, er2⟩ := ups_cons er
    refine ⟨CS p R C way (T.map rowD) (.dat (.int (k : Nat))) v6 v7 v8, rfl, ?_⟩
    refine s_seq ?_
    refine s_own ?_
    refine f_lst ?_
    refine a_nil ?_
    refine ⟨by decide, by show 6 < 9; decide, ?_⟩
    show Gs (sSeq _ _ (CS p R C way (T.map rowD) (.dat (.int (k : Nat))) (.own []) v7 v8)) _ _
    refine s_seq ?_
    refine s_for (I := fun r s => ∃ (j : Nat) (p : List PyData) (L : List Int) (v7 v8 : SV), r = ups j C ∧ j ≤ C ∧ L.length = j ∧ (∀ x ∈ L, 0 ≤ x ∧ x ≤ 1000000000) ∧ Pot (n + 3 + 24 * k + 4 * j) p ∧ (Wv v7 ∧ Wv v8) ∧ s = CS p R C way (T.map rowD) (.dat (.int (k : Nat))) (.own (L.map .int)) v7 v8) ?_ (fun d r s hI => ?_) (fun s hI => ?_)
    · refine f_r1 ?_
      refine e_var (d := .int (C : Nat)) rfl ?_
      exact ⟨_, rfl, by omega, by omega, 0, p, [], v7, v8, rng_ups C, Nat.zero_le _, rfl, fun x hx => (by cases hx), hp, ⟨w7, w8⟩, rfl⟩
    · obtain ⟨j, p, L, v7, v8, ej, lj, lL, okL, hp, ⟨w7, w8⟩, rfl⟩ := hI
      obtain ⟨cj, rfl, ej2⟩ := ups_cons ej
      refine ⟨CS p R C way (T.map rowD) (.dat (.int (k : Nat))) (.own (L.map .int)) (.dat (.int (j : Nat))) v8, rfl, ?_⟩
      refine cellC_ok hp (by omega) ⟨a3, b3⟩ (by omega) w8 fun p1 x d8 hp1 x0 x1 => ?_
      refine ⟨j + 1, p1, L ++ [x], _, _, ej2, cj, by rw [List.length_append, lL]; rfl, fun y hy => ?_, hp1.mono (by omega), ⟨.dat _, .dat _⟩, rfl⟩
      rcases List.mem_append.mp hy with z | z
      · exact okL y z
      · rw [List.mem_singleton.mp z]; exact ⟨x0, x1⟩
    · obtain ⟨j, p, L, v7, v8, ej, lj, lL, okL, hp, ⟨w7, w8⟩, rfl⟩ := hI
      have ej := ups_nil ej lj
      refine s_seq ?_
      refine s_frz (ds := L.map .int) rfl ?_
      refine s_app (p0 := T.map rowD) rfl ?_
      refine e_b ?_
      refine a_cons ?_
      refine e_var (d := .list (L.map .int)) rfl ?_
      refine a_nil ?_
      refine gd (a := rowD L) rfl ⟨T.map rowD, rfl, ?_, ?_⟩
      · rw [List.length_map, lT]
        exact Nat.lt_of_le_of_lt (show k ≤ 6 by omega) (by decide)
      · have e : T.map rowD ++ [rowD L] = (T ++ [L]).map rowD := by simp
        rw [e]
        refine ⟨k + 1, p, T ++ [L], _, _, v7, v8, er2, ck, by rw [List.length_append, lT]; rfl, fun r hr => ?_, hp.mono (by omega), ⟨w7, w8⟩, rfl⟩
        rcases List.mem_append.mp hr with z | z
        · exact ok r z
        · rw [List.mem_singleton.mp z]; exact ⟨lL.trans ej, okL⟩
  · obtain ⟨k, p, T, v5, v6, v7, v8, er, lk, lT, ok, hp, ⟨w7, w8⟩, rfl⟩ := hI
    have ek := ups_nil er lk
    refine s_seq ?_
    refine s_frz (ds := T.map rowD) rfl ?_
    refine s_ret ?_
    refine e_b ?_
    refine a_cons ?_
    refine e_var (d := .list (T.map rowD)) rfl ?_
    refine a_nil ?_
    refine gd (a := tD T) rfl ?_
    refine ⟨p, rfl, T, R, C, rfl, ⟨lT.trans ek, fun r hr => (ok r hr).1, ⟨fR, fC⟩, fun r hr x hx => ⟨((ok r hr).2 x hx).1, ?_⟩⟩, fun r hr x hx => ((ok r hr).2 x hx).2, hp.mono (by omega)⟩
    have := ((ok r hr).2 x hx).2
    omega
end K70

/-! hidden places as the law draws them -/
namespace K70
open PySem PySem.Spec PyProof.Rows L2 Dl
def HS (p : List PyData) (T : Tb) (R C : Nat) (way : Int) (F : List PyData) (v6 v7 v8 : SV) : Sl := [.pot p, .dat (tD T), .dat (.int (R : Nat)), .dat (.int (C : Nat)), .dat (.int way), .own F, v6, v7, v8]
theorem setHS {p p1 : List PyData} {T : Tb} {R C : Nat} {way : Int} {F : List PyData} {d6 d7 : PyData} {v8 : SV} (w : Wv v8) : setC (HS p T R C way F (.dat d6) (.dat d7) v8) 0 p1 = HS p1 T R C way F (.dat d6) (.dat d7) v8 := by
  show [SV.pot p1, .dat (tD T), .dat (.int (R : Nat)), .dat (.int (C : Nat)), .dat (.int way), .own F, .dat d6, .dat d7, potUp p1 v8] = _
  rw [w.up]
  rfl
def placeH : DS := (sSeq (sSet 8 (dL (fLst (aCons (dC (.bool true)) (aCons (dOp gEq (dCallM m__law_take 0 (aCons (dC (.int 2)) aNil)) (dC (.int 0))) (aCons (dOp gEq (dCallM m__law_take 0 (aCons (dC (.int 5)) aNil)) (dC (.int 0))) (aCons (dAnd (dOp gLt (dVar 6) (dC (.int 2))) (dOp gLt (dVar 7) (dC (.int 2)))) aNil)))))))
  (sIf (dTst (dOp gIx (dOp gAdd (dVar 8) (dL (fLst (aCons (dOp (gIn false) (dOp gSub (dVar 6) (dVar 7)) (dTup (aCons (dC (.int 0)) (aCons (dC (.int 1)) aNil)))) aNil)))) (dVar 4)))
  (sApp 5 (dTup (aCons (dVar 6) (aCons (dVar 7) aNil))))
  sNil))
theorem lt_2 (i : Int) : gLt (.int i) (.int 2) = some (.bool (decide (i < 2))) := rfl
theorem placeH_ok {n : Nat} {p : List PyData} (hp : Pot n p) (hn : n < 900000) {T : Tb} {R C : Nat} {way : Int} (hw : 0 ≤ way ∧ way < 5) {H : List Pl} (lH : H.length ≤ 100) {k j : Nat} {v8 : SV} (w : Wv v8) {N : Sl → Prop} {Q : PyData → Sl → Prop}
    (kk : ∀ (p1 : List PyData) (H' : List Pl) (d8 : PyData), Pot (n + 2) p1 → (H' = H ∨ H' = H ++ [(k, j)]) → N (HS p1 T R C way (H'.map plD) (.dat (.int (k : Nat))) (.dat (.int (j : Nat))) (.dat d8))) :
    Gs (placeH (HS p T R C way (H.map plD) (.dat (.int (k : Nat))) (.dat (.int (j : Nat))) v8)) N Q := by
  unfold placeH
  refine s_seq ?_
  refine s_set ?_
  refine e_l ?_
  refine f_lst ?_
  refine a_cons ?_
  refine e_c ?_
  refine a_cons ?_
  refine e_op ?_
  refine e_callM (p0 := p) rfl ?_
  refine a_cons ?_
  refine e_c ?_
  refine a_nil ?_
  refine ⟨p, rfl, ?_⟩
  refine pot_at hp (by omega) (by decide) (by decide) fun r1 p1 a1 b1 hp1 => ?_
  rw [setHS w]
  refine e_c ?_
  refine gd (eq_int r1 0) ?_
  refine a_cons ?_
  refine e_op ?_
  refine e_callM (p0 := p1) rfl ?_
  refine a_cons ?_
  refine e_c ?_
  refine a_nil ?_
  refine ⟨p1, rfl, ?_⟩
  refine pot_at hp1 (by omega) (by decide) (by decide) fun r2 p2 a2 b2 hp2 => ?_
  rw [setHS w]
  refine e_c ?_
  refine gd (eq_int r2 0) ?_
  refine a_cons ?_
  have fin : ∀ (b1 b2 b3 : Bool), Gs ((sIf (dTst (dOp gIx (dOp gAdd (dVar 8) (dL (fLst (aCons (dOp (gIn false) (dOp gSub (dVar 6) (dVar 7)) (dTup (aCons (dC (.int 0)) (aCons (dC (.int 1)) aNil)))) aNil)))) (dVar 4)))
  (sApp 5 (dTup (aCons (dVar 6) (aCons (dVar 7) aNil))))
  sNil) (HS p2 T R C way (H.map plD) (.dat (.int (k : Nat))) (.dat (.int (j : Nat))) (.dat (.list [.bool true, .bool b1, .bool b2, .bool b3])))) N Q := by
    intro b1 b2 b3
    refine s_if ?_
    refine t_tst ?_
    refine e_op ?_
    refine e_op ?_
    refine e_var (d := .list [.bool true, .bool b1, .bool b2, .bool b3]) rfl ?_
    refine e_l ?_
    refine f_lst ?_
    refine a_cons ?_
    refine e_op ?_
    refine e_op ?_
    refine e_var (d := .int (k : Nat)) rfl ?_
    refine e_var (d := .int (j : Nat)) rfl ?_
    refine n_sub ?_
    refine e_tup ?_
    refine a_cons ?_
    refine e_c ?_
    refine a_cons ?_
    refine e_c ?_
    refine a_nil ?_
    refine ⟨Nat.le_of_ble_eq_true rfl, ?_⟩
    obtain ⟨b4, e4⟩ : ∃ b : Bool, gIn false (.int ((k : Int) - (j : Int))) (.tuple [.int 0, .int 1]) = some (.bool b) := ⟨_, rfl⟩
    refine gd e4 ?_
    refine a_nil ?_
    refine ⟨Nat.le_of_ble_eq_true rfl, ?_⟩
    refine gd (a := .list [.bool true, .bool b1, .bool b2, .bool b3, .bool b4]) ?_ ?_
    · show (if 4 + 1 ≤ sizeLine then some (PyData.list ([.bool true, .bool b1, .bool b2, .bool b3] ++ [.bool b4])) else none) = _
      rw [if_pos (by decide)]
      rfl
    refine e_var (d := .int way) rfl ?_
    refine ix_list _ hw.1 hw.2 fun d hd => ?_
    have : ∃ b : Bool, d = .bool b := by
      simp only [List.mem_cons, List.not_mem_nil, or_false] at hd
      rcases hd with rfl | rfl | rfl | rfl | rfl <;> exact ⟨_, rfl⟩
    obtain ⟨b, rfl⟩ := this
    refine ⟨b, rfl, ?_⟩
    cases b with
    | true =>
      refine .inl ⟨rfl, ?_⟩
      refine s_app (p0 := H.map plD) rfl ?_
      refine e_tup ?_
      refine a_cons ?_
      refine e_var (d := .int (k : Nat)) rfl ?_
      refine a_cons ?_
      refine e_var (d := .int (j : Nat)) rfl ?_
      refine a_nil ?_
      refine ⟨Nat.le_of_ble_eq_true rfl, H.map plD, rfl, ?_, ?_⟩
      · rw [List.length_map]
        exact Nat.lt_of_le_of_lt lH (by decide)
      · have e : H.map plD ++ [PyData.tuple [.int (k : Nat), .int (j : Nat)]] = (H ++ [(k, j)]).map plD := by
          rw [List.map_append]
          rfl
        rw [e]
        exact kk p2 _ _ (hp2.mono (by omega)) (.inr rfl)
    | false =>
      refine .inr ⟨rfl, s_nil ?_⟩
      exact kk p2 _ _ (hp2.mono (by omega)) (.inl rfl)
  refine e_and ?_
  refine e_op ?_
  refine e_var (d := .int (k : Nat)) rfl ?_
  refine e_c ?_
  refine gd (lt_2 _) ⟨_, rfl, ?_⟩
  by_cases c : (k : Int) < 2
  · refine .inl ⟨decide_eq_true c, ?_⟩
    refine e_op ?_
    refine e_var (d := .int (j : Nat)) rfl ?_
    refine e_c ?_
    refine gd (lt_2 _) ?_
    refine a_nil ?_
    refine ⟨Nat.le_of_ble_eq_true rfl, ?_⟩
    exact fin _ _ _
  · refine .inr ⟨decide_eq_false c, ?_⟩
    refine a_nil ?_
    refine ⟨Nat.le_of_ble_eq_true rfl, ?_⟩
    exact fin _ _ _
/-- drawn so far, ahead of a place -/
structure Hf (R C : Nat) (h : List Pl) (k j : Nat) : Prop where
  hd : Hd R C h
  lo : ∀ p ∈ h, plt p (k, j)
theorem Hf.next {R C : Nat} {h : List Pl} {k j : Nat} (f : Hf R C h k j) : Hf R C h k (j + 1) := ⟨f.hd, fun p hp => by
  have := f.lo p hp
  unfold plt at this ⊢
  dsimp only at this ⊢
  omega⟩
theorem Hf.add {R C : Nat} {h : List Pl} {k j : Nat} (f : Hf R C h k j) (hk : k < R) (hj : j < C) : Hf R C (h ++ [(k, j)]) k (j + 1) := by
  refine ⟨⟨fun p hp => ?_, List.pairwise_append.mpr ⟨f.hd.up, List.pairwise_singleton .., fun a ha b hb => ?_⟩⟩, fun p hp => ?_⟩
  · rcases List.mem_append.mp hp with z | z
    · exact f.hd.hin p z
    · rw [List.mem_singleton.mp z]; exact ⟨hk, hj⟩
  · rw [List.mem_singleton.mp hb]; exact f.lo a ha
  · rcases List.mem_append.mp hp with z | z
    · exact f.next.lo p z
    · rw [List.mem_singleton.mp z]
      unfold plt
      dsimp only
      omega
theorem Hf.row {R C : Nat} {h : List Pl} {k j : Nat} (f : Hf R C h k j) : Hf R C h (k + 1) 0 := ⟨f.hd, fun p hp => by
  have := f.lo p hp
  unfold plt at this ⊢
  dsimp only at this ⊢
  omega⟩
theorem hidden_ok {n : Nat} {pd : List PyData} (h : Pot n pd) (hn : n < 800000) {T : Tb} {R C : Nat} (bx : Box T R C) : Gd (m__law_hidden pd [tD T]) fun q => ∃ H : List Pl, q.1 = hD H ∧ Hd R C H ∧ Pot (n + 100) q.2 := by
  have few := bx.few
  have h1 : 0 < T.length := by rw [bx.rows]; omega
  have lenT : gLen [tD T] = some (.int (R : Nat)) := by
    show some (PyData.int ((T.map rowD).length : Nat)) = _
    rw [List.length_map, bx.rows]
  have lenR : gLen [rowD T[0]] = some (.int (C : Nat)) := by
    show some (PyData.int (((T[0]).map PyData.int).length : Nat)) = _
    rw [List.length_map, bx.cols _ (List.getElem_mem h1)]
  unfold m__law_hidden
  refine m_fnM rfl ?_
  unfold b__law_hidden
  refine s_seq ?_
  refine s_par ?_
  refine e_b ?_
  refine a_cons ?_
  refine e_var (d := tD T) rfl ?_
  refine a_nil ?_
  refine gd lenT ?_
  refine e_b ?_
  refine a_cons ?_
  refine e_op ?_
  refine e_var (d := tD T) rfl ?_
  refine e_c ?_
  refine gd (ix_nat (k := 0) (d := rowD T[0]) (by rw [List.getElem?_map, List.getElem?_eq_getElem h1]; rfl)) ?_
  refine a_nil ?_
  refine gd lenR ?_
  refine s_seq ?_
  refine s_set ?_
  refine e_callM (p0 := pd) rfl ?_
  refine a_cons ?_
  refine e_c ?_
  refine a_nil ?_
  refine ⟨pd, rfl, ?_⟩
  refine pot_at h (by omega) (by decide) (by decide) fun way p3 a3 b3 hp3 => ?_
  refine s_seq ?_
  refine s_own ?_
  refine f_lst ?_
  refine a_nil ?_
  refine ⟨by decide, by show 5 < 9; decide, ?_⟩
  show Gs (sSeq _ _ (HS p3 T R C way [] .no .no .no)) _ _
  refine s_seq ?_
  refine s_for (I := fun r s => ∃ (k : Nat) (p : List PyData) (H : List Pl) (v6 v7 v8 : SV), r = ups k R ∧ k ≤ R ∧ Hf R C H k 0 ∧ Pot (n + 1 + 12 * k) p ∧ Wv v8 ∧ s = HS p T R C way (H.map plD) v6 v7 v8) ?_ (fun d r s hI => ?_) (fun s hI => ?_)
  · refine f_r1 ?_
    refine e_var (d := .int (R : Nat)) rfl ?_
    exact ⟨_, rfl, by omega, by omega, 0, p3, [], _, _, _, rng_ups R, Nat.zero_le _, ⟨⟨fun p hp => (by cases hp), .nil⟩, fun p hp => (by cases hp)⟩, hp3, .no, rfl⟩
  · obtain ⟨k, p, H, v6, v7, v8, er, lk, hf, hp, w8, rfl⟩ := hI
    obtain ⟨ck, rfl, er2⟩ := ups_cons er
    refine ⟨HS p T R C way (H.map plD) (.dat (.int (k : Nat))) v7 v8, rfl, ?_⟩
    refine s_for (I := fun r s => ∃ (j : Nat) (p : List PyData) (H : List Pl) (v7 v8 : SV), r = ups j C ∧ j ≤ C ∧ Hf R C H k j ∧ Pot (n + 1 + 12 * k + 2 * j) p ∧ Wv v8 ∧ s = HS p T R C way (H.map plD) (.dat (.int (k : Nat))) v7 v8) ?_ (fun d r s hI => ?_) (fun s hI => ?_)
    · refine f_r1 ?_
      refine e_var (d := .int (C : Nat)) rfl ?_
      exact ⟨_, rfl, by omega, by omega, 0, p, H, v7, v8, rng_ups C, Nat.zero_le _, hf, hp, w8, rfl⟩
    · obtain ⟨j, p, H, v7, v8, ej, lj, hf, hp, w8, rfl⟩ := hI
      obtain ⟨cj, rfl, ej2⟩ := ups_cons ej
      refine ⟨HS p T R C way (H.map plD) (.dat (.int (k : Nat))) (.dat (.int (j : Nat))) v8, rfl, ?_⟩
      have lH := hf.hd.few few.1.2 few.2.2
      refine placeH_ok hp (by omega) ⟨a3, b3⟩ (by omega) w8 fun p1 H' d8 hp1 hH => ?_
      refine ⟨j + 1, p1, H', _, _, ej2, cj, ?_, hp1.mono (by omega), .dat _, rfl⟩
      rcases hH with rfl | rfl
      · exact hf.next
      · exact hf.add ck cj
    · obtain ⟨j, p, H, v7, v8, ej, lj, hf, hp, w8, rfl⟩ := hI
      have ej := ups_nil ej lj
      exact ⟨k + 1, p, H, _, _, _, er2, ck, hf.row, hp.mono (by omega), w8, rfl⟩
  · obtain ⟨k, p, H, v6, v7, v8, er, lk, hf, hp, w8, rfl⟩ := hI
    have ek := ups_nil er lk
    refine s_seq ?_
    refine s_frz (ds := H.map plD) rfl ?_
    refine s_ret ?_
    refine e_b ?_
    refine a_cons ?_
    refine e_var (d := .list (H.map plD)) rfl ?_
    refine a_nil ?_
    refine gd (a := hD H) rfl ?_
    exact ⟨p, rfl, H, rfl, hf.hd, hp.mono (by omega)⟩
end K70

/-! the bounds are the ends of all that can be; given away -/
namespace K70
open PySem PySem.Spec PyProof.Rows L2 Dl
theorem paper_by {T0 T : Tb} {R C : Nat} {h : List Pl} (hd : Hd R C h) (rd : Rd T0 R C h T) (tn : Int) (rc : Pl → Bool) : (((nums rc tn R C).zip (leftR T0 h R ++ leftC T0 h C)).map fun q => q.1 * q.2).sum = (h.map fun p => (rw_ rc tn p.1 + cw_ rc tn p.2) * cell T p).sum := by
  rw [zip_nums, List.map_append, List.sum_append, List.map_map, List.map_map]
  have e1 : ((List.range R).map ((fun q : Int × Int => q.1 * q.2) ∘ fun r => (rw_ rc tn r, su T0 (rowF r) h))).sum = (h.map fun p => rw_ rc tn p.1 * cell T p).sum := by
    rw [← by_lines T (fun p => p.1) (rw_ rc tn) R h fun p hp => (hd.hin p hp).1]
    congr 1
    refine List.map_congr_left fun r _ => ?_
    show rw_ rc tn r * su T0 (rowF r) h = rw_ rc tn r * su T (rowF r) h
    rw [rd.rows r]
  have e2 : ((List.range C).map ((fun q : Int × Int => q.1 * q.2) ∘ fun c => (cw_ rc tn c, su T0 (colF c) h))).sum = (h.map fun p => cw_ rc tn p.2 * cell T p).sum := by
    rw [← by_lines T (fun p => p.2) (cw_ rc tn) C h fun p hp => (hd.hin p hp).2]
    congr 1
    refine List.map_congr_left fun c _ => ?_
    show cw_ rc tn c * su T0 (colF c) h = cw_ rc tn c * su T (colF c) h
    rw [rd.cols c]
  rw [e1, e2, ← sum_add]
  congr 1
  refine List.map_congr_left fun p _ => ?_
  rw [Int.add_mul]
theorem lin (f g k : Pl → Int) (c : Int) : ∀ h : List Pl, (h.map fun p => (f p - g p) * c * k p).sum = ((h.map fun p => f p * k p).sum - (h.map fun p => g p * k p).sum) * c
  | [] => by simp
  | a :: r => by
    rw [List.map_cons, List.map_cons, List.map_cons, List.sum_cons, List.sum_cons, List.sum_cons, lin f g k c r]
    have e : (f a - g a) * c * k a = f a * k a * c - g a * k a * c := by
      rw [Int.sub_mul, Int.sub_mul, Int.mul_right_comm, Int.mul_right_comm (g a)]
    rw [e]
    simp only [Int.sub_mul, Int.add_mul]
    omega
theorem sum_neg : ∀ l : List Int, (∀ x ∈ l, x ≤ 0) → l.sum ≤ 0
  | [], _ => Int.le_refl 0
  | x :: r, h => by
    have := h x List.mem_cons_self
    have := sum_neg r fun y hy => h y (List.mem_cons_of_mem _ hy)
    rw [List.sum_cons]; omega
/-- no table that can be has less than the least, or more than the greatest -/
theorem dual {T0 T T' : Tb} {R C : Nat} {h : List Pl} (hd : Hd R C h) (rd : Rd T0 R C h T) (rd' : Rd T0 R C h T') {place : Pl} (at_ : place ∈ h) {tn : Int} (ht : tn = 1 ∨ tn = -1) {rc : Pl → Bool} (pp : Pp T h place tn rc) : (cell T place - cell T' place) * (-tn) ≤ 0 := by
  have a := paper_sum hd rd at_ ht pp
  rw [paper_by hd rd' tn rc] at a
  have b : (h.map fun p => (if p = place then 1 else 0) * cell T' p).sum = cell T' place := by
    rw [sum_one (fun p => (if p = place then 1 else 0) * cell T' p) place h hd.nd at_ fun p _ np => by rw [if_neg np, Int.zero_mul], if_pos rfl, Int.one_mul]
  rw [← a, ← b, ← lin]
  refine sum_neg _ fun x hx => ?_
  obtain ⟨p, hp, rfl⟩ := List.mem_map.mp hx
  have pos := (box_cell rd'.box (hd.hin p hp)).1
  have neg : (rw_ rc tn p.1 + cw_ rc tn p.2 - (if p = place then 1 else 0)) * (-tn) ≤ 0 := by
    by_cases e : p = place
    · subst e
      rw [if_pos rfl]
      exact (at_place ht pp).2
    · rw [if_neg e, Int.sub_zero]
      exact (at_other ht pp hp e (box_cell rd.box (hd.hin p hp)).1).2
  exact Int.mul_nonpos_of_nonpos_of_nonneg neg pos
/-- the least and the greatest -/
structure Ends (T0 : Tb) (R C : Nat) (h : List Pl) (place : Pl) (T1 T2 : Tb) : Prop where
  r1 : Rd T0 R C h T1
  r2 : Rd T0 R C h T2
  lo : ∀ T, Rd T0 R C h T → cell T1 place ≤ cell T place
  hi : ∀ T, Rd T0 R C h T → cell T place ≤ cell T2 place
theorem ends_of {T0 T1 T2 : Tb} {R C : Nat} {h : List Pl} (hd : Hd R C h) {place : Pl} (at_ : place ∈ h) {rc1 rc2 : Pl → Bool} (k1 : Rd T0 R C h T1 ∧ Pp T1 h place (-1) rc1) (k2 : Rd T0 R C h T2 ∧ Pp T2 h place 1 rc2) : Ends T0 R C h place T1 T2 := by
  refine ⟨k1.1, k2.1, fun T rd => ?_, fun T rd => ?_⟩
  · have := dual hd k1.1 rd at_ (.inr rfl) k1.2
    omega
  · have := dual hd k2.1 rd at_ (.inl rfl) k2.2
    omega
theorem Ends.same {T0 T1 T2 S1 S2 : Tb} {R C : Nat} {h : List Pl} {place : Pl} (a : Ends T0 R C h place T1 T2) (b : Ends T0 R C h place S1 S2) : cell T1 place = cell S1 place ∧ cell T2 place = cell S2 place := by
  have := a.lo S1 b.r1
  have := b.lo T1 a.r1
  have := a.hi S2 b.r2
  have := b.hi T2 a.r2
  omega
/-- alone in its row, or its column -/
theorem Ends.lone {T0 T1 T2 : Tb} {R C : Nat} {h : List Pl} (hd : Hd R C h) {place : Pl} (at_ : place ∈ h) (a : Ends T0 R C h place T1 T2) (l : (∀ p ∈ h, p.1 = place.1 → p = place) ∨ ∀ p ∈ h, p.2 = place.2 → p = place) : cell T1 place = cell T2 place := by
  have one : ∀ (f : Pl → Bool), f place = true → (∀ p ∈ h, f p = true → p = place) → ∀ T : Tb, su T f h = cell T place := fun f fp k T => by
    have e : su T f h = (h.map fun p => if f p = true then cell T p else 0).sum := by
      clear k hd at_ a l
      induction h with
      | nil => rfl
      | cons p r ih => rw [su_cons, List.map_cons, List.sum_cons, ih]
    rw [e, sum_one (fun p => if f p = true then cell T p else 0) place h hd.nd at_ fun p hp np => if_neg fun z => np (k p hp z), if_pos fp]
  rcases l with l | l
  · have k := one (rowF place.1) (decide_eq_true rfl) fun p hp z => l p hp (of_decide_eq_true z)
    rw [← k T1, ← k T2, a.r1.rows, a.r2.rows]
  · have k := one (colF place.2) (decide_eq_true rfl) fun p hp z => l p hp (of_decide_eq_true z)
    rw [← k T1, ← k T2, a.r1.cols, a.r2.cols]
theorem sure_ok {T0 : Tb} {R C : Nat} (bx : Box T0 R C) (hi : ∀ r ∈ T0, ∀ x ∈ r, x ≤ 1000000000) {h : List Pl} (hd : Hd R C h) {place : Pl} (at_ : place ∈ h) : Gd (m__is_sure [tD T0, hD h, plD place]) fun q => ∃ T1 T2 : Tb, q = .bool (cell T1 place == cell T2 place) ∧ Ends T0 R C h place T1 T2 := by
  unfold m__is_sure
  refine m_fnP rfl ?_
  unfold b__is_sure
  refine s_ret ?_
  refine e_op ?_
  refine e_op ?_
  refine e_call ?_
  refine a_cons ?_
  refine e_var (d := tD T0) rfl ?_
  refine a_cons ?_
  refine e_var (d := hD h) rfl ?_
  refine a_cons ?_
  refine e_var (d := plD place) rfl ?_
  refine a_cons ?_
  refine e_c ?_
  refine a_nil ?_
  refine gd_mono (bound_ok bx (sc_of bx hi hd at_ (tn := -1) (.inr rfl))) fun q hq => ?_
  obtain ⟨T1, rc1, rfl, rd1, pp1⟩ := hq
  refine e_c ?_
  refine gd (a := .int (cell T1 place)) rfl ?_
  refine e_op ?_
  refine e_call ?_
  refine a_cons ?_
  refine e_var (d := tD T0) rfl ?_
  refine a_cons ?_
  refine e_var (d := hD h) rfl ?_
  refine a_cons ?_
  refine e_var (d := plD place) rfl ?_
  refine a_cons ?_
  refine e_c ?_
  refine a_nil ?_
  refine gd_mono (bound_ok bx (sc_of bx hi hd at_ (tn := 1) (.inl rfl))) fun q hq => ?_
  obtain ⟨T2, rc2, rfl, rd2, pp2⟩ := hq
  refine e_c ?_
  refine gd (a := .int (cell T2 place)) rfl ?_
  refine gd (eq_int _ _) ?_
  exact ⟨T1, T2, rfl, ends_of hd at_ ⟨rd1, pp1⟩ ⟨rd2, pp2⟩⟩
def sureF (T0 : Tb) (h : List Pl) (d : PyData) : Bool := match m__is_sure [tD T0, hD h, d] with
  | some (.bool b) => b
  | _ => false
theorem sureF_eq {T0 T1 T2 : Tb} {R C : Nat} (bx : Box T0 R C) (hi : ∀ r ∈ T0, ∀ x ∈ r, x ≤ 1000000000) {h : List Pl} (hd : Hd R C h) {place : Pl} (at_ : place ∈ h) (a : Ends T0 R C h place T1 T2) : m__is_sure [tD T0, hD h, plD place] = some (.bool (sureF T0 h (plD place))) ∧ sureF T0 h (plD place) = (cell T1 place == cell T2 place) := by
  obtain ⟨q, e, S1, S2, rfl, b⟩ := sure_ok bx hi hd at_
  obtain ⟨s1, s2⟩ := a.same b
  unfold sureF
  rw [e, s1, s2]
  exact ⟨rfl, rfl⟩
theorem given_ok {T0 : Tb} {R C : Nat} (bx : Box T0 R C) (hi : ∀ r ∈ T0, ∀ x ∈ r, x ≤ 1000000000) {h : List Pl} (hd : Hd R C h) : Gd (m_given_away [tD T0, hD h]) fun r => r = .ok (hD (h.filter fun p => sureF T0 h (plD p))) := by
  have few := hd.few bx.few.1.2 bx.few.2.2
  unfold m_given_away
  refine m_fnX rfl ?_
  unfold b_given_away
  refine x_seq ?_
  refine x_drop ?_
  refine a_cons ?_
  refine e_var (d := tD T0) rfl ?_
  refine a_nil ?_
  refine gd_mono (check_counts_ok bx hi) fun q hq => .inl ⟨_, hq, ?_⟩
  refine x_seq ?_
  refine x_drop ?_
  refine a_cons ?_
  refine e_var (d := tD T0) rfl ?_
  refine a_cons ?_
  refine e_var (d := hD h) rfl ?_
  refine a_nil ?_
  refine gd_mono (check_places_ok bx hd) fun q hq => .inl ⟨_, hq, ?_⟩
  refine x_up ?_
  refine s_ret ?_
  refine e_b ?_
  refine a_cons ?_
  refine e_l ?_
  refine f_lc_pure (sureF T0 h) id ?_
  refine f_itA ?_
  refine e_var (d := hD h) rfl ?_
  refine .inl ⟨_, .inr rfl, rfl, by rw [List.length_map]; exact Nat.lt_of_le_of_lt few (by decide), fun d hd' => ?_, ?_⟩
  · obtain ⟨p, hp, rfl⟩ := List.mem_map.mp hd'
    refine ⟨?_, fun _ => e_var (d := plD p) rfl ⟨rfl, rfl⟩⟩
    refine t_tst ?_
    refine e_call ?_
    refine a_cons ?_
    refine e_var (d := tD T0) rfl ?_
    refine a_cons ?_
    refine e_var (d := hD h) rfl ?_
    refine a_cons ?_
    refine e_var (d := plD p) rfl ?_
    refine a_nil ?_
    obtain ⟨q, e, T1, T2, rfl, a⟩ := sure_ok bx hi hd hp
    refine gd (sureF_eq bx hi hd hp a).1 ⟨_, rfl, rfl, rfl⟩
  · refine a_nil ?_
    refine gd (a := hD (h.filter fun p => sureF T0 h (plD p))) ?_ rfl
    rw [List.map_id, List.filter_map]
    rfl
end K70

/-! the law -/
namespace K70
open PySem PySem.Spec PyProof.Rows L2 Dl
def script (ns : List Int) : PyData := .dict [(.none, .list (ns.map .int))]
theorem ix_tup (ds : List PyData) {r : Int} {D : PyData → Prop} (h0 : 0 ≤ r) (h : r < ds.length) (k : ∀ d ∈ ds, D d) : Gd (gIx (.tuple ds) (.int r)) D := by
  have l : r.toNat < ds.length := by omega
  refine gd (a := ds[r.toNat]) ?_ (k _ (List.getElem_mem l))
  show atI ds r = _
  unfold atI ixN
  rw [if_pos h0, if_pos h, Option.bind_some, List.getElem?_eq_getElem l]
theorem tell {T0 : Tb} {R C : Nat} (bx : Box T0 R C) (hi : ∀ r ∈ T0, ∀ x ∈ r, x ≤ 1000000000) {h : List Pl} (hd : Hd R C h) {place : Pl} (at_ : place ∈ h) {D : PyData → Prop} (k : ∀ (T1 T2 : Tb) (rc1 rc2 : Pl → Bool), (Rd T0 R C h T1 ∧ Pp T1 h place (-1) rc1) → (Rd T0 R C h T2 ∧ Pp T2 h place 1 rc2) → D (tolD T1 T2 rc1 rc2 place R C)) : Gd (okOf m_bounds_at [tD T0, hD h, plD place]) D := by
  obtain ⟨r, er, T1, T2, rc1, rc2, rfl, k1, k2⟩ := bounds_ok bx hi hd at_
  refine ok_gd (d := tolD T1 T2 rc1 rc2 place R C) (gd er rfl) (k T1 T2 rc1 rc2 k1 k2)
theorem repr_h {R C : Nat} (fR : R ≤ 6) (fC : C ≤ 6) {h : List Pl} (hd : Hd R C h) {g : List Pl} (sub : ∀ p ∈ g, p ∈ h) (lg : g.length ≤ 36) : ∃ S, gRepr [hD g] = some (.str S) := by
  have n2 : Nu 2 (hD g) := hd_nu fR fC fun p hp => hd.hin p (sub p hp)
  refine ⟨_, nu_repr n2 (by decide) ?_⟩
  unfold hD
  rw [wtN]
  have a := wtsN_le (m := 412) (ds := g.map plD) fun d hd' => by
    obtain ⟨p, hp, rfl⟩ := List.mem_map.mp hd'
    unfold plD
    simp only [wtN, wtsN]
    decide
  rw [List.length_map] at a
  omega
def LS (ns : List Int) (k : Nat) (p : List PyData) (T : Tb) (h : List Pl) (due : List Pl) (v6 v7 v8 v10 v11 : SV) : Sl := [.dat (script ns), .dat (.int (k : Nat)), .own p, .dat (tD T), .dat (hD h), .own (due.map plD), v6, v7, v8, .no, v10, v11, .tab q_]
def tailP : DS := (sSeq (sSet 8 (dL (fLc (itA (dVar 4)) 9 (dAndT (dTst (dOp gNe (dVar 9) (dVar 6))) (dTst (dOp gEq (dOp gIx (dVar 9) (dC (.int 0))) (dOp gIx (dVar 6) (dC (.int 0)))))) (dC (.int 1)))))
  (sSeq (sSet 10 (dL (fLc (itA (dVar 4)) 9 (dAndT (dTst (dOp gNe (dVar 9) (dVar 6))) (dTst (dOp gEq (dOp gIx (dVar 9) (dC (.int 1))) (dOp gIx (dVar 6) (dC (.int 1)))))) (dC (.int 1)))))
  (sIf (dAndT (dOrT (dTst (dOp gEq (dVar 8) (dL (fLst aNil)))) (dTst (dOp gEq (dVar 10) (dL (fLst aNil))))) (dTst (dOp gNe (dOp gIx (dVar 7) (dC (.int 0))) (dOp gIx (dVar 7) (dC (.int 3))))))
  (sRet (dC (.bool false)))
  sNil)))
def loopP : DS := (sFor (itA (dVar 4)) (tgN 6)
  (sSeq (sSet 7 (dCall (okOf m_bounds_at) (aCons (dVar 3) (aCons (dVar 4) (aCons (dVar 6) aNil)))))
  (sSeq (sIf (dNotT (dTst (dCall m__law_shows (aCons (dVar 3) (aCons (dVar 4) (aCons (dVar 6) (aCons (dVar 7) aNil)))))))
  (sRet (dC (.bool false)))
  sNil)
  (sSeq (sIf (dTst (dOp gEq (dOp gIx (dVar 7) (dC (.int 0))) (dOp gIx (dVar 7) (dC (.int 3)))))
  (sApp 5 (dVar 6))
  sNil)
  tailP))))
def mateR (place : Pl) (d : PyData) : Bool := match d with
  | .tuple [.int a, .int b] => decide (((a.toNat, b.toNat) : Pl) ≠ place) && decide (a.toNat = place.1)
  | _ => false
def mateC (place : Pl) (d : PyData) : Bool := match d with
  | .tuple [.int a, .int b] => decide (((a.toNat, b.toNat) : Pl) ≠ place) && decide (b.toNat = place.2)
  | _ => false
theorem mateR_pl (place p : Pl) : mateR place (plD p) = (decide (p ≠ place) && decide (p.1 = place.1)) := by
  show (decide (((((p.1 : Nat) : Int).toNat, ((p.2 : Nat) : Int).toNat) : Pl) ≠ place) && decide (((p.1 : Nat) : Int).toNat = place.1)) = _
  rw [Int.toNat_natCast, Int.toNat_natCast]
theorem mateC_pl (place p : Pl) : mateC place (plD p) = (decide (p ≠ place) && decide (p.2 = place.2)) := by
  show (decide (((((p.1 : Nat) : Int).toNat, ((p.2 : Nat) : Int).toNat) : Pl) ≠ place) && decide (((p.2 : Nat) : Int).toNat = place.2)) = _
  rw [Int.toNat_natCast, Int.toNat_natCast]
theorem ones_nil (ds : List PyData) : gEq (.list (ds.map fun _ => .int 1)) (.list []) = some (.bool ds.isEmpty) := by
  have n : Nu 1 (.list (ds.map fun _ => .int 1)) := nu_lst fun d hd => by
    obtain ⟨x, _, rfl⟩ := List.mem_map.mp hd
    exact nu_small (by decide) (by decide)
  rw [nu_eq (k := 1) n (nu_lst fun d hd => by cases hd) (by decide) (by decide), PyData.eqv]
  cases ds with
  | nil => rfl
  | cons a r => simp [PyData.eqvAll]
theorem none_like {h : List Pl} {T : PyData → Bool} (e : ((h.map plD).filter T).isEmpty = true) : ∀ p ∈ h, T (plD p) = false := fun p hp => by
  rw [List.isEmpty_iff, List.filter_eq_nil_iff] at e
  have := e (plD p) (List.mem_map_of_mem hp)
  simpa using this
theorem tailP_ok {ns : List Int} {k : Nat} {p : List PyData} {T T1 T2 : Tb} {R C : Nat} (bx : Box T R C) {h : List Pl} (hd : Hd R C h) {place : Pl} (at_ : place ∈ h) {rc1 rc2 : Pl → Bool} (en : Ends T R C h place T1 T2) {due : List Pl} {v8 v10 v11 : SV} {N : Sl → Prop} {Q : PyData → Sl → Prop}
    (kk : ∀ v8 v10, N (LS ns k p T h due (.dat (plD place)) (.dat (tolD T1 T2 rc1 rc2 place R C)) v8 v10 v11)) : Gs (tailP (LS ns k p T h due (.dat (plD place)) (.dat (tolD T1 T2 rc1 rc2 place R C)) v8 v10 v11)) N Q := by
  have few := hd.few bx.few.1.2 bx.few.2.2
  unfold tailP
  refine s_seq ?_
  refine s_set ?_
  refine e_l ?_
  refine f_lc_pure (mateR place) (fun _ => .int 1) ?_
  refine f_itA ?_
  refine e_var (d := hD h) rfl ?_
  refine .inl ⟨_, .inr rfl, rfl, by rw [List.length_map]; exact Nat.lt_of_le_of_lt few (by decide), fun d hd' => ⟨?_, fun _ => e_c ⟨rfl, rfl⟩⟩, ?_⟩
  · obtain ⟨q, hq, rfl⟩ := List.mem_map.mp hd'
    rw [mateR_pl]
    refine t_and ?_
    refine t_tst ?_
    refine e_op ?_
    refine e_var (d := plD q) rfl ?_
    refine e_var (d := plD place) rfl ?_
    refine gd (ne_pl q place) ⟨_, rfl, ?_⟩
    by_cases c : q ≠ place
    · refine .inl ⟨decide_eq_true c, ?_⟩
      refine t_tst ?_
      refine e_op ?_
      refine e_op ?_
      refine e_var (d := plD q) rfl ?_
      refine e_c ?_
      refine gd (pl_0 q) ?_
      refine e_op ?_
      refine e_var (d := plD place) rfl ?_
      refine e_c ?_
      refine gd (pl_0 place) ?_
      refine gd (eq_nat _ _) ⟨_, rfl, ?_, rfl⟩
      rw [decide_eq_true c, Bool.true_and]
    · refine .inr ⟨decide_eq_false c, ?_, rfl⟩
      rw [decide_eq_false c, Bool.false_and]
  show Gs (sSeq _ _ (LS ns k p T h due (.dat (plD place)) (.dat (tolD T1 T2 rc1 rc2 place R C)) (.dat (.list (((h.map plD).filter (mateR place)).map fun _ => .int 1))) v10 v11)) _ _
  refine s_seq ?_
  refine s_set ?_
  refine e_l ?_
  refine f_lc_pure (mateC place) (fun _ => .int 1) ?_
  refine f_itA ?_
  refine e_var (d := hD h) rfl ?_
  refine .inl ⟨_, .inr rfl, rfl, by rw [List.length_map]; exact Nat.lt_of_le_of_lt few (by decide), fun d hd' => ⟨?_, fun _ => e_c ⟨rfl, rfl⟩⟩, ?_⟩
  · obtain ⟨q, hq, rfl⟩ := List.mem_map.mp hd'
    rw [mateC_pl]
    refine t_and ?_
    refine t_tst ?_
    refine e_op ?_
    refine e_var (d := plD q) rfl ?_
    refine e_var (d := plD place) rfl ?_
    refine gd (ne_pl q place) ⟨_, rfl, ?_⟩
    by_cases c : q ≠ place
    · refine .inl ⟨decide_eq_true c, ?_⟩
      refine t_tst ?_
      refine e_op ?_
      refine e_op ?_
      refine e_var (d := plD q) rfl ?_
      refine e_c ?_
      refine gd (pl_1 q) ?_
      refine e_op ?_
      refine e_var (d := plD place) rfl ?_
      refine e_c ?_
      refine gd (pl_1 place) ?_
      refine gd (eq_nat _ _) ⟨_, rfl, ?_, rfl⟩
      rw [decide_eq_true c, Bool.true_and]
    · refine .inr ⟨decide_eq_false c, ?_, rfl⟩
      rw [decide_eq_false c, Bool.false_and]
  show Gs (sIf _ _ _ (LS ns k p T h due (.dat (plD place)) (.dat (tolD T1 T2 rc1 rc2 place R C)) (.dat (.list (((h.map plD).filter (mateR place)).map fun _ => .int 1))) (.dat (.list (((h.map plD).filter (mateC place)).map fun _ => .int 1))) v11)) _ _
  have alike : ((∀ p ∈ h, p.1 = place.1 → p = place) ∨ ∀ p ∈ h, p.2 = place.2 → p = place) → ∀ {st : Sl}, st = (LS ns k p T h due (.dat (plD place)) (.dat (tolD T1 T2 rc1 rc2 place R C)) (.dat (.list (((h.map plD).filter (mateR place)).map fun _ => .int 1))) (.dat (.list (((h.map plD).filter (mateC place)).map fun _ => .int 1))) v11) → Ge (dTst (dOp gNe (dOp gIx (dVar 7) (dC (.int 0))) (dOp gIx (dVar 7) (dC (.int 3)))) st) fun b s1 => (b = true ∧ Gs (sRet (dC (.bool false)) s1) N Q) ∨ (b = false ∧ Gs (sNil s1) N Q) := by
    intro l st est
    subst est
    have e := en.lone hd at_ l
    refine t_tst ?_
    refine e_op ?_
    refine e_op ?_
    refine e_var (d := tolD T1 T2 rc1 rc2 place R C) rfl ?_
    refine e_c ?_
    refine gd (a := .int (cell T1 place)) rfl ?_
    refine e_op ?_
    refine e_var (d := tolD T1 T2 rc1 rc2 place R C) rfl ?_
    refine e_c ?_
    refine gd (a := .int (cell T2 place)) rfl ?_
    rw [e]
    exact gd (ne_same _) ⟨_, rfl, .inr ⟨rfl, s_nil (kk _ _)⟩⟩
  refine s_if ?_
  refine t_and ?_
  refine t_or ?_
  refine t_tst ?_
  refine e_op ?_
  refine e_var (d := .list (((h.map plD).filter (mateR place)).map fun _ => .int 1)) rfl ?_
  refine e_l ?_
  refine f_lst ?_
  refine a_nil ?_
  refine ⟨by decide, ?_⟩
  refine gd (ones_nil _) ⟨_, rfl, ?_⟩
  cases e8 : ((h.map plD).filter (mateR place)).isEmpty with
  | true =>
    refine .inl ⟨rfl, .inl ⟨rfl, ?_⟩⟩
    refine alike (.inl fun q hq eq => ?_) rfl
    have := none_like e8 q hq
    rw [mateR_pl, decide_eq_true eq, Bool.and_true] at this
    exact Classical.not_not.mp (of_decide_eq_false this)
  | false =>
    refine .inr ⟨rfl, ?_⟩
    refine t_tst ?_
    refine e_op ?_
    refine e_var (d := .list (((h.map plD).filter (mateC place)).map fun _ => .int 1)) rfl ?_
    refine e_l ?_
    refine f_lst ?_
    refine a_nil ?_
    refine ⟨by decide, ?_⟩
    refine gd (ones_nil _) ⟨_, rfl, ?_⟩
    cases e10 : ((h.map plD).filter (mateC place)).isEmpty with
    | true =>
      refine .inl ⟨rfl, ?_⟩
      refine alike (.inr fun q hq eq => ?_) rfl
      have := none_like e10 q hq
      rw [mateC_pl, decide_eq_true eq, Bool.and_true] at this
      exact Classical.not_not.mp (of_decide_eq_false this)
    | false => exact .inr ⟨rfl, .inr ⟨rfl, s_nil (kk _ _)⟩⟩
theorem loopP_ok {ns : List Int} {k : Nat} {p : List PyData} {T : Tb} {R C : Nat} (bx : Box T R C) (hi : ∀ r ∈ T, ∀ x ∈ r, x ≤ 1000000000) {h : List Pl} (hd : Hd R C h) {v6 v7 v8 v10 v11 : SV} {N : Sl → Prop}
    (kk : ∀ v6 v7 v8 v10, N (LS ns k p T h (h.filter fun p => sureF T h (plD p)) v6 v7 v8 v10 v11)) : Gs (loopP (LS ns k p T h [] v6 v7 v8 v10 v11)) N fun _ _ => False := by
  have few := hd.few bx.few.1.2 bx.few.2.2
  unfold loopP
  refine s_for (I := fun r s => ∃ (done rest : List Pl) (v6 v7 v8 v10 : SV), h = done ++ rest ∧ r = rest.map plD ∧ s = LS ns k p T h (done.filter fun p => sureF T h (plD p)) v6 v7 v8 v10 v11) ?_ (fun d r s hI => ?_) (fun s hI => ?_)
  · refine f_itA ?_
    refine e_var (d := hD h) rfl ?_
    exact .inl ⟨_, .inr rfl, [], h, _, _, _, _, rfl, rfl, rfl⟩
  · obtain ⟨done, rest, v6, v7, v8, v10, eh, er, rfl⟩ := hI
    cases rest with
    | nil => cases er
    | cons place rest =>
      rw [List.map_cons] at er
      injection er with er1 er2
      subst er1 er2
      have at_ : place ∈ h := by rw [eh]; simp
      refine ⟨LS ns k p T h (done.filter fun p => sureF T h (plD p)) (.dat (plD place)) v7 v8 v10 v11, rfl, ?_⟩
      refine s_seq ?_
      refine s_set ?_
      refine e_call ?_
      refine a_cons ?_
      refine e_var (d := tD T) rfl ?_
      refine a_cons ?_
      refine e_var (d := hD h) rfl ?_
      refine a_cons ?_
      refine e_var (d := plD place) rfl ?_
      refine a_nil ?_
      refine tell bx hi hd at_ fun T1 T2 rc1 rc2 k1 k2 => ?_
      have en := ends_of hd at_ k1 k2
      show Gs (sSeq _ _ (LS ns k p T h (done.filter fun p => sureF T h (plD p)) (.dat (plD place)) (.dat (tolD T1 T2 rc1 rc2 place R C)) v8 v10 v11)) _ _
      refine s_seq ?_
      refine s_if ?_
      refine t_not ?_
      refine t_tst ?_
      refine e_call ?_
      refine a_cons ?_
      refine e_var (d := tD T) rfl ?_
      refine a_cons ?_
      refine e_var (d := hD h) rfl ?_
      refine a_cons ?_
      refine e_var (d := plD place) rfl ?_
      refine a_cons ?_
      refine e_var (d := tolD T1 T2 rc1 rc2 place R C) rfl ?_
      refine a_nil ?_
      refine gd_mono (shows_ok bx hd at_ k1 k2) fun z hz => ?_
      refine ⟨true, hz, .inr ⟨rfl, s_nil ?_⟩⟩
      have sp := (sureF_eq bx hi hd at_ en).2
      have ed : (done ++ [place]).filter (fun p => sureF T h (plD p)) = (done.filter fun p => sureF T h (plD p)) ++ (if sureF T h (plD place) = true then [place] else []) := by
        rw [List.filter_append]
        cases c : sureF T h (plD place) with
        | true => rw [List.filter_cons_of_pos (by exact c)]; rfl
        | false => rw [List.filter_cons_of_neg (by rw [c]; exact Bool.false_ne_true)]; rfl
      have last : Gs (tailP (LS ns k p T h ((done ++ [place]).filter fun p => sureF T h (plD p)) (.dat (plD place)) (.dat (tolD T1 T2 rc1 rc2 place R C)) v8 v10 v11)) (fun s3 => ∃ (done' rest' : List Pl) (v6 v7 v8 v10 : SV), h = done' ++ rest' ∧ rest.map plD = rest'.map plD ∧ s3 = LS ns k p T h (done'.filter fun p => sureF T h (plD p)) v6 v7 v8 v10 v11) fun _ _ => False :=
        tailP_ok bx hd at_ en fun v8 v10 => ⟨done ++ [place], rest, _, _, _, _, by rw [eh]; simp, rfl, rfl⟩
      refine s_seq ?_
      refine s_if ?_
      refine t_tst ?_
      refine e_op ?_
      refine e_op ?_
      refine e_var (d := tolD T1 T2 rc1 rc2 place R C) rfl ?_
      refine e_c ?_
      refine gd (a := .int (cell T1 place)) rfl ?_
      refine e_op ?_
      refine e_var (d := tolD T1 T2 rc1 rc2 place R C) rfl ?_
      refine e_c ?_
      refine gd (a := .int (cell T2 place)) rfl ?_
      refine gd (eq_int _ _) ⟨_, rfl, ?_⟩
      rw [← sp]
      cases c : sureF T h (plD place) with
      | true =>
        refine .inl ⟨rfl, ?_⟩
        rw [c, if_pos rfl] at ed
        refine s_app (p0 := (done.filter fun p => sureF T h (plD p)).map plD) rfl ?_
        refine e_var (d := plD place) rfl ?_
        refine ⟨_, rfl, ?_, ?_⟩
        · rw [List.length_map]
          have l1 := List.length_filter_le (fun p => sureF T h (plD p)) done
          have l2 := congrArg List.length eh
          rw [List.length_append] at l2
          exact Nat.lt_of_le_of_lt (show _ ≤ 36 by omega) (by decide)
        · rw [ed] at last
          unfold LS at last
          rw [List.map_append] at last
          exact last
      | false =>
        refine .inr ⟨rfl, s_nil ?_⟩
        rw [c, if_neg Bool.false_ne_true, List.append_nil] at ed
        rw [ed] at last
        exact last
  · obtain ⟨done, rest, v6, v7, v8, v10, eh, er, rfl⟩ := hI
    cases rest with
    | cons a r => cases er
    | nil =>
      rw [List.append_nil] at eh
      subst eh
      exact kk _ _ _ _
def sq : PyData := .tuple [.tuple [.int 0, .int 0], .tuple [.int 0, .int 1], .tuple [.int 1, .int 0], .tuple [.int 1, .int 1]]
theorem e1 : m_given_away [.tuple [.tuple [.int 0, .int 0], .tuple [.int 0, .int 4]], sq] = some (.ok sq) := by kernel_rfl
theorem e2 : m_given_away [.tuple [.tuple [.int 1, .int 0], .tuple [.int 0, .int 1]], sq] = some (.ok (.tuple [])) := by kernel_rfl
theorem e3 : m_given_away [.tuple [.tuple [.int 1, .int 2]], .tuple []] = some (.ok (.tuple [])) := by kernel_rfl
theorem e4 : m_given_away [.tuple [.tuple [.int 7]], .tuple [.tuple [.int 0, .int 0]]] = some (.ok (.tuple [.tuple [.int 0, .int 0]])) := by kernel_rfl
theorem ok_at {m : List PyData → Option (Rx PyData)} {ds : List PyData} {d : PyData} {D : PyData → Prop} (h : m ds = some (.ok d)) (k : D d) : Gd (okOf m ds) D := gd (by unfold okOf; rw [h]) k
def endP : DS := (sSeq (sSet 11 (dTup (aCons (dTup (aCons (dC (.int 0)) (aCons (dC (.int 0)) aNil))) (aCons (dTup (aCons (dC (.int 0)) (aCons (dC (.int 1)) aNil))) (aCons (dTup (aCons (dC (.int 1)) (aCons (dC (.int 0)) aNil))) (aCons (dTup (aCons (dC (.int 1)) (aCons (dC (.int 1)) aNil))) aNil))))))
  (sSeq (sIf (dOrT (dTst (dOp gNe (dCall (okOf m_given_away) (aCons (dTup (aCons (dTup (aCons (dC (.int 0)) (aCons (dC (.int 0)) aNil))) (aCons (dTup (aCons (dC (.int 0)) (aCons (dC (.int 4)) aNil))) aNil))) (aCons (dVar 11) aNil))) (dVar 11))) (dTst (dOp gNe (dCall (okOf m_given_away) (aCons (dTup (aCons (dTup (aCons (dC (.int 1)) (aCons (dC (.int 0)) aNil))) (aCons (dTup (aCons (dC (.int 0)) (aCons (dC (.int 1)) aNil))) aNil))) (aCons (dVar 11) aNil))) (dTup aNil))))
  (sRet (dC (.bool false)))
  sNil)
  (sRet (dAnd (dOp gEq (dCall (okOf m_given_away) (aCons (dTup (aCons (dTup (aCons (dC (.int 1)) (aCons (dC (.int 2)) aNil))) aNil)) (aCons (dTup aNil) aNil))) (dTup aNil)) (dOp gEq (dCall (okOf m_given_away) (aCons (dTup (aCons (dTup (aCons (dC (.int 7)) aNil)) aNil)) (aCons (dTup (aCons (dTup (aCons (dC (.int 0)) (aCons (dC (.int 0)) aNil))) aNil)) aNil))) (dTup (aCons (dTup (aCons (dC (.int 0)) (aCons (dC (.int 0)) aNil))) aNil)))))))
theorem pair_e {x y : Int} {s : Sl} {QA : PyData → Sl → Prop} (k : QA (.tuple [.int x, .int y]) s) : Ge (dTup (aCons (dC (.int x)) (aCons (dC (.int y)) aNil)) s) QA := by
  refine e_tup ?_
  refine a_cons ?_
  refine e_c ?_
  refine a_cons ?_
  refine e_c ?_
  refine a_nil ?_
  exact ⟨Nat.le_of_ble_eq_true rfl, k⟩
theorem nil_e {s : Sl} {QA : PyData → Sl → Prop} (k : QA (.tuple []) s) : Ge (dTup aNil s) QA := by
  refine e_tup ?_
  refine a_nil ?_
  exact ⟨Nat.le_of_ble_eq_true rfl, k⟩
theorem ne_sq : gNe sq sq = some (.bool false) := by kernel_rfl
theorem ne_tn : gNe (.tuple []) (.tuple []) = some (.bool false) := by kernel_rfl
theorem eq_tn : gEq (.tuple []) (.tuple []) = some (.bool true) := by kernel_rfl
theorem eq_t1 : gEq (.tuple [.tuple [.int 0, .int 0]]) (.tuple [.tuple [.int 0, .int 0]]) = some (.bool true) := by kernel_rfl
theorem endP_ok {s : Sl} (l : s.length = 13) : Gs (endP s) (fun _ => False) fun d _ => d = .bool true := by
  obtain ⟨a0, a1, a2, a3, a4, a5, a6, a7, a8, a9, a10, a11, a12, rfl⟩ : ∃ a0 a1 a2 a3 a4 a5 a6 a7 a8 a9 a10 a11 a12, s = [a0, a1, a2, a3, a4, a5, a6, a7, a8, a9, a10, a11, a12] := by
    match s, l with
    | [a0, a1, a2, a3, a4, a5, a6, a7, a8, a9, a10, a11, a12], _ => exact ⟨a0, a1, a2, a3, a4, a5, a6, a7, a8, a9, a10, a11, a12, rfl⟩
  unfold endP
  refine s_seq ?_
  refine s_set ?_
  refine e_tup ?_
  refine a_cons ?_
  refine pair_e ?_
  refine a_cons ?_
  refine pair_e ?_
  refine a_cons ?_
  refine pair_e ?_
  refine a_cons ?_
  refine pair_e ?_
  refine a_nil ?_
  refine ⟨Nat.le_of_ble_eq_true rfl, ?_⟩
  show Gs (sSeq _ _ [a0, a1, a2, a3, a4, a5, a6, a7, a8, a9, a10, .dat sq, a12]) _ _
  refine s_seq ?_
  refine s_if ?_
  refine t_or ?_
  refine t_tst ?_
  refine e_op ?_
  refine e_call ?_
  refine a_cons ?_
  refine e_tup ?_
  refine a_cons ?_
  refine pair_e ?_
  refine a_cons ?_
  refine pair_e ?_
  refine a_nil ?_
  refine ⟨Nat.le_of_ble_eq_true rfl, ?_⟩
  refine a_cons ?_
  refine e_var (d := sq) rfl ?_
  refine a_nil ?_
  refine ok_at e1 ?_
  refine e_var (d := sq) rfl ?_
  refine gd ne_sq ⟨_, rfl, .inr ⟨rfl, ?_⟩⟩
  refine t_tst ?_
  refine e_op ?_
  refine e_call ?_
  refine a_cons ?_
  refine e_tup ?_
  refine a_cons ?_
  refine pair_e ?_
  refine a_cons ?_
  refine pair_e ?_
  refine a_nil ?_
  refine ⟨Nat.le_of_ble_eq_true rfl, ?_⟩
  refine a_cons ?_
  refine e_var (d := sq) rfl ?_
  refine a_nil ?_
  refine ok_at e2 ?_
  refine nil_e ?_
  refine gd ne_tn ⟨_, rfl, .inr ⟨rfl, s_nil ?_⟩⟩
  refine s_ret ?_
  refine e_and ?_
  refine e_op ?_
  refine e_call ?_
  refine a_cons ?_
  refine e_tup ?_
  refine a_cons ?_
  refine pair_e ?_
  refine a_nil ?_
  refine ⟨Nat.le_of_ble_eq_true rfl, ?_⟩
  refine a_cons ?_
  refine nil_e ?_
  refine a_nil ?_
  refine ok_at e3 ?_
  refine nil_e ?_
  refine gd eq_tn ⟨_, rfl, .inl ⟨rfl, ?_⟩⟩
  refine e_op ?_
  refine e_call ?_
  refine a_cons ?_
  refine e_tup ?_
  refine a_cons ?_
  refine e_tup ?_
  refine a_cons ?_
  refine e_c ?_
  refine a_nil ?_
  refine ⟨Nat.le_of_ble_eq_true rfl, ?_⟩
  refine a_nil ?_
  refine ⟨Nat.le_of_ble_eq_true rfl, ?_⟩
  refine a_cons ?_
  refine e_tup ?_
  refine a_cons ?_
  refine pair_e ?_
  refine a_nil ?_
  refine ⟨Nat.le_of_ble_eq_true rfl, ?_⟩
  refine a_nil ?_
  refine ok_at e4 ?_
  refine e_tup ?_
  refine a_cons ?_
  refine pair_e ?_
  refine a_nil ?_
  refine ⟨Nat.le_of_ble_eq_true rfl, ?_⟩
  exact gd eq_t1 rfl
theorem law_ok (ns : List Int) (h : ns.length ≤ 63) : Gs (b_law (startT ["_law_script", "_law_k", "_law_pot_here", "_law_counts_here", "_law_hidden_here", "_law_due", "_law_place", "_law_told", "_law_mates", "_law_other", "_law_others", "_law_square", "~tab"] q_ [script ns])) (fun _ => False) fun d _ => d = .bool true := by
  show Gs (b_law [.dat (script ns), .no, .no, .no, .no, .no, .no, .no, .no, .no, .no, .no, .tab q_]) _ _
  unfold b_law
  refine s_seq ?_
  refine s_for (I := fun r s => (∀ d ∈ r, ∃ k : Nat, d = .int (k : Int) ∧ k < 100) ∧ ∃ v1 v2 v3 v4 v5 v6 v7 v8 v10 v11 : SV, s = [.dat (script ns), v1, v2, v3, v4, v5, v6, v7, v8, .no, v10, v11, .tab q_]) ?_ (fun d r s hI => ?_) (fun s hI => ?_)
  · refine f_r1 ?_
    refine e_b ?_
    refine a_cons ?_
    refine e_c ?_
    refine a_cons ?_
    refine e_b ?_
    refine a_cons ?_
    refine e_c ?_
    refine a_cons ?_
    refine e_b ?_
    refine a_cons ?_
    refine e_var (d := script ns) rfl ?_
    refine a_nil ?_
    refine gd (a := .int ((ns.map PyData.int).length : Nat)) rfl ?_
    refine a_nil ?_
    refine gd (a := .int (if (((ns.map PyData.int).length : Nat) : Int) < 6 then (((ns.map PyData.int).length : Nat) : Int) else 6)) rfl ?_
    refine a_nil ?_
    refine gd (a := .int (if (if (((ns.map PyData.int).length : Nat) : Int) < 6 then (((ns.map PyData.int).length : Nat) : Int) else 6) > 1 then (if (((ns.map PyData.int).length : Nat) : Int) < 6 then (((ns.map PyData.int).length : Nat) : Int) else 6) else 1)) rfl ?_
    obtain ⟨m, em⟩ : ∃ m : Nat, (m : Int) = (if (if (((ns.map PyData.int).length : Nat) : Int) < 6 then (((ns.map PyData.int).length : Nat) : Int) else 6) > 1 then (if (((ns.map PyData.int).length : Nat) : Int) < 6 then (((ns.map PyData.int).length : Nat) : Int) else 6) else 1) := ⟨_, Int.toNat_of_nonneg (by split <;> split <;> omega)⟩
    rw [← em]
    have lm : m ≤ 12 := by
      split at em <;> split at em <;> omega
    refine ⟨_, rfl, by omega, by omega, fun d hd => ?_, _, _, _, _, _, _, _, _, _, _, rfl⟩
    rw [rng0] at hd
    obtain ⟨k, hk, rfl⟩ := List.mem_map.mp hd
    have hk' := List.mem_range.mp hk
    exact ⟨k, rfl, by omega⟩
  · obtain ⟨hr, v1, v2, v3, v4, v5, v6, v7, v8, v10, v11, rfl⟩ := hI
    obtain ⟨k, rfl, hk⟩ := hr d List.mem_cons_self
    have hr' : ∀ d ∈ r, ∃ k : Nat, d = .int (k : Int) ∧ k < 100 := fun e he => hr e (List.mem_cons_of_mem _ he)
    refine ⟨_, rfl, ?_⟩
    refine s_seq ?_
    refine s_own ?_
    refine f_call ?_
    refine a_cons ?_
    refine e_var (d := script ns) rfl ?_
    refine a_cons ?_
    refine e_var (d := .int (k : Nat)) rfl ?_
    refine a_nil ?_
    refine gd_mono (pot_ok (ns := ns) hk) fun pd hpd => ?_
    refine ⟨by show 2 < 13; decide, ?_⟩
    refine s_seq ?_
    refine s_set ?_
    refine e_callM (p0 := pd) rfl ?_
    refine a_nil ?_
    refine ⟨pd, rfl, ?_⟩
    refine gd_mono (counts_ok hpd (by decide)) fun q hq => ?_
    obtain ⟨d1, p1⟩ := q
    obtain ⟨T, R, C, e, bx, hi, hp1⟩ := hq
    have e : d1 = tD T := e
    subst e
    have hp1 : Pot _ p1 := hp1
    refine s_seq ?_
    refine s_set ?_
    refine e_callM (p0 := p1) rfl ?_
    refine a_cons ?_
    refine e_var (d := tD T) rfl ?_
    refine a_nil ?_
    refine ⟨p1, rfl, ?_⟩
    refine gd_mono (hidden_ok hp1 (by decide) bx) fun q hq => ?_
    obtain ⟨d2, p2⟩ := q
    obtain ⟨H, e, hd, hp2⟩ := hq
    have e : d2 = hD H := e
    subst e
    have few := hd.few bx.few.1.2 bx.few.2.2
    refine s_seq ?_
    refine s_own ?_
    refine f_lst ?_
    refine a_nil ?_
    refine ⟨by decide, by show 5 < 13; decide, ?_⟩
    show Gs (sSeq loopP _ (LS ns k p2 T H [] v6 v7 v8 v10 v11)) _ _
    refine s_seq ?_
    refine gs_mono (loopP_ok bx hi hd (N := fun s1 => ∃ v6 v7 v8 v10, s1 = LS ns k p2 T H (H.filter fun p => sureF T H (plD p)) v6 v7 v8 v10 v11) fun u6 u7 u8 u10 => ⟨u6, u7, u8, u10, rfl⟩) (fun s1 h1 => ?_) (fun _ _ z => z.elim)
    obtain ⟨u6, u7, u8, u10, rfl⟩ := h1
    refine s_seq ?_
    refine s_frz (ds := (H.filter fun p => sureF T H (plD p)).map plD) rfl ?_
    obtain ⟨S, eS⟩ := repr_h bx.few.1.2 bx.few.2.2 hd (g := H.filter fun p => sureF T H (plD p)) (fun p hp => (List.mem_filter.mp hp).1) (Nat.le_trans (List.length_filter_le ..) few)
    refine s_if ?_
    refine t_tst ?_
    refine e_op ?_
    refine e_b ?_
    refine a_cons ?_
    refine e_call ?_
    refine a_cons ?_
    refine e_var (d := tD T) rfl ?_
    refine a_cons ?_
    refine e_var (d := hD H) rfl ?_
    refine a_nil ?_
    refine ok_gd (given_ok bx hi hd) ?_
    refine a_nil ?_
    refine gd eS ?_
    refine e_b ?_
    refine a_cons ?_
    refine e_b ?_
    refine a_cons ?_
    refine e_var (d := .list ((H.filter fun p => sureF T H (plD p)).map plD)) rfl ?_
    refine a_nil ?_
    refine gd (a := hD (H.filter fun p => sureF T H (plD p))) rfl ?_
    refine a_nil ?_
    refine gd eS ?_
    refine gd (ne_shown S) ⟨_, rfl, .inr ⟨rfl, s_nil ?_⟩⟩
    exact ⟨hr', _, _, _, _, _, _, _, _, _, _, rfl⟩
  · obtain ⟨_, v1, v2, v3, v4, v5, v6, v7, v8, v10, v11, rfl⟩ := hI
    exact endP_ok rfl
theorem law_true (ns : List Int) (h : ns.length ≤ 63) : fnT ["_law_script", "_law_k", "_law_pot_here", "_law_counts_here", "_law_hidden_here", "_law_due", "_law_place", "_law_told", "_law_mates", "_law_other", "_law_others", "_law_square", "~tab"] q_ 1 b_law [.dict [(.none, .list (ns.map .int))]] = some (.bool true) := by
  obtain ⟨⟨s, e, z⟩ | ⟨d, s, e, rfl⟩⟩ := law_ok ns h
  · exact z.elim
  · unfold fnT
    rw [if_pos (show [PyData.dict [(PyData.none, PyData.list (ns.map PyData.int))]].length = 1 from rfl)]
    have e' : b_law (startT ["_law_script", "_law_k", "_law_pot_here", "_law_counts_here", "_law_hidden_here", "_law_due", "_law_place", "_law_told", "_law_mates", "_law_other", "_law_others", "_law_square", "~tab"] q_ [.dict [(.none, .list (ns.map .int))]]) = _ := e
    rw [e']
    rfl
end K70

open PySem PySem.W PySem.Calls PyProof.Rows
theorem PySem.Challenge.cw_askround_k70_given_away_holds : PySem.Challenge.rw_askround_k70_given_away.Holds := by
  w_on; o_law
  refine HandSHeadRun.head_any (r := K70.R_) (q := view K70.R_.prog [37]) (H := K70.hk_) (ob := K70.ob_) (M := 30000) (loose := K70.names_) (d := HandSHeadRun.topDef K70.R_.prog 37) (kwd := []) K70.ob_eq
    (by kernel_rfl) (fun s => by kernel_rfl) K70.run_ (by kernel_rfl) (by kernel_rfl) (by kernel_rfl) (by rfl) (by first | assumption | decide +kernel) (by decide +kernel) ⟨rfl, rfl, rfl, rfl, rfl, by decide +kernel⟩ ?hw ?hc
  case hw => w_witness2
  case hc =>
    exact Dl.walk_dataT (l := PySem.Challenge.rw_askround_k70_given_away) (n := 63) (k := 6) (qq := K70.q_) rfl (by decide) (by kernel_rfl) (by kernel_rfl) (by kernel_rfl) ⟨rfl, by decide, by decide⟩ K70.sc_law (by decide) (fun w mg h K X G c cc Fx => K70.facts_ w mg h K X G c cc Fx) K70.law_true
