import PyProof.Rows.All
import HandS.ForMost
import HandS.IsInst
import HandS.Wide
import HandS.WideMore
import HandS.TupAny
import HandS.Style
import HandS.Deep
import HandS.Flow
import HandS.SetKeys
import HandS.Steps
import HandS.ForExc
import HandS.HeadHook1
import HandS.Lambda
import PyProof.EqKinds
import HandS.Strs
import KE.KEqNest
import PyProof.ReprRoads
import PyProof.ReprReads
import HandS.SetFor
import HandS.Ends
import HandS.TupLe
import HandS.HeadEnd
import HandS.HeadHook2
import HandS.HeadNt
import HandS.Head0
import HandS.Head1
import HandS.Head2
import HandS.Gcd
import HandS.Head3
import HandS.ExcIs
import HandS.HeadHook4
import HandS.FStr
import HandS.Star
import HandS.RaiseMore
import HandS.TupMul
import HandS.TryOnly
import HandS.Defaults
import HandS.MakeKw
import KE.KDictDisplayH
import HandS.Zip
import KE.GoesEnum
import KE.KIndexOf
import HandS.DictComp
import KE.GoesMore
import HandS.HotCalls
import HandS.Nested
import PySem.Challenge.RW_askround_k62_tables_added
set_option Elab.async false
set_option linter.all false
set_option maxRecDepth 100000
set_option maxHeartbeats 4000000
/-! ### A layer of plain data: what a body does, told as a partial function over trees of data -/
namespace Dl
open PySem PySem.Spec PyProof.Rows L2

def kD : Key → PyData
  | .inl i => .int i
  | .inr x => .str x

/-- no key of a dict: no whole number in it -/
def keyless (ds : List PyData) : Bool := ds.all fun d => match d with
  | .int _ => false
  | _ => true
/-- the entries of a dict whose keys are tuples; ahead of them stands (.none, .none) -/
def kvD (ds : List (List Key × PyData)) : List (PyData × PyData) := ds.map fun p => (.tuple (p.1.map kD), p.2)
/-- an exception of the class of that name (a class of the program's own, without fields), as a tree -/
def excD (c : Str) : PyData := .dict [(.none, .str c)]
def ExZ (C a : Addr) : HO := .ext fun h => ∃ oe : Obj, h.get? a = some oe ∧ Zc (.ref C) none oe ∧ ∃ vs : Array Value, oe.data = .fields vs
mutual
/-- the value v stands for the tree d; nothing of it may be written (mu: what may be) -/
inductive Dt (K : PySem.W.Frag) (mu : Addr → Prop) (H : Hp) : V → PyData → Prop
  | non : Dt K mu H .non .none
  | bl (b : Bool) : Dt K mu H (.bl b) (.bool b)
  | int (i : Int) : Dt K mu H (.int i) (.int i)
  | str (x : Str) : Dt K mu H (.str x) (.str x)
  | lst {a : Addr} {xs : List V} {ds : List PyData} : Rd H a (.lst xs) → ¬ mu a → DtAll K mu H xs ds → Dt K mu H (.ref a) (.list ds)
  | scr {a : Addr} {xs : List V} {ds : List PyData} : (Rd H a (.lst xs) ∧ ¬ mu a) ∨ (∀ H', SqL K H' a xs) → DtAll K mu H xs ds → Dt K mu H (.ref a) (.dict [(.none, .list ds)])
  | tup {a : Addr} {xs : List V} {ds : List PyData} : H a = some (.tup xs) → ¬ mu a → DtAll K mu H xs ds → Dt K mu H (.ref a) (.tuple ds)
  | tupK {a : Addr} {xs : List V} {ds : List PyData} : (∀ H', SqT K H' a xs) → keyless ds = true → DtAll K mu H xs ds → Dt K mu H (.ref a) (.tuple ds)
  | dct {a : Addr} {kvs : List (Key × V)} {ds : List (PyData × PyData)} : H a = some (.dK kvs) → ¬ mu a → DtKv K mu H kvs ds → Dt K mu H (.ref a) (.dict ds)
  | dcT {a : Addr} {kvs : List (List Key × V)} {ds : List (List Key × PyData)} : H a = some (.dT kvs) → ¬ mu a → DtKT K mu H kvs ds → Dt K mu H (.ref a) (.dict ((.none, .none) :: kvD ds))
  | exc {a : Addr} {c : Str} : H a = some (ExZ (He.ga K c) a) → ¬ mu a → Dt K mu H (.ref a) (.dict [(.none, .str c)])
inductive DtAll (K : PySem.W.Frag) (mu : Addr → Prop) (H : Hp) : List V → List PyData → Prop
  | nil : DtAll K mu H [] []
  | cons {v : V} {vs : List V} {d : PyData} {ds : List PyData} : Dt K mu H v d → DtAll K mu H vs ds → DtAll K mu H (v :: vs) (d :: ds)
inductive DtKv (K : PySem.W.Frag) (mu : Addr → Prop) (H : Hp) : List (Key × V) → List (PyData × PyData) → Prop
  | nil : DtKv K mu H [] []
  | cons {k : Key} {v : V} {vs : List (Key × V)} {d : PyData} {ds : List (PyData × PyData)} : Dt K mu H v d → DtKv K mu H vs ds → DtKv K mu H ((k, v) :: vs) ((kD k, d) :: ds)
inductive DtKT (K : PySem.W.Frag) (mu : Addr → Prop) (H : Hp) : List (List Key × V) → List (List Key × PyData) → Prop
  | nil : DtKT K mu H [] []
  | cons {k : List Key} {v : V} {vs : List (List Key × V)} {d : PyData} {ds : List (List Key × PyData)} : Dt K mu H v d → DtKT K mu H vs ds → DtKT K mu H ((k, v) :: vs) ((k, d) :: ds)
end

/-- what stood and could not be written stands, and can not be written -/
def Kp (mu : Addr → Prop) (H : Hp) (mu' : Addr → Prop) (H' : Hp) : Prop := ∀ a o, H a = some o → ¬ mu a → H' a = some o ∧ ¬ mu' a
theorem Kp.refl (mu : Addr → Prop) (H : Hp) : Kp mu H mu H := fun _ _ h n => ⟨h, n⟩
theorem Kp.trans {m1 m2 m3 : Addr → Prop} {H1 H2 H3 : Hp} (a : Kp m1 H1 m2 H2) (b : Kp m2 H2 m3 H3) : Kp m1 H1 m3 H3 := fun x o h n =>
  let ⟨h2, n2⟩ := a x o h n
  b x o h2 n2
theorem Kp.rd {m1 m2 : Addr → Prop} {H1 H2 : Hp} (k : Kp m1 H1 m2 H2) {a : Addr} {u : HO} (h : Rd H1 a u) (n : ¬ m1 a) : Rd H2 a u ∧ ¬ m2 a := by
  rcases h with h | ⟨o, h⟩
  · exact ⟨.inl (k a _ h n).1, (k a _ h n).2⟩
  · exact ⟨.inr ⟨o, (k a _ h n).1⟩, (k a _ h n).2⟩

section
variable {K : PySem.W.Frag} {mu mu' : Addr → Prop} {H H' : Hp}
mutual
theorem Dt.mono (k : Kp mu H mu' H') : ∀ {v : V} {d : PyData}, Dt K mu H v d → Dt K mu' H' v d
  | _, _, .non => .non
  | _, _, .bl b => .bl b
  | _, _, .int i => .int i
  | _, _, .str x => .str x
  | _, _, .lst h n t => .lst (k.rd h n).1 (k.rd h n).2 (DtAll.mono k t)
  | _, _, .scr h t => .scr (h.elim (fun z => .inl ⟨(k.rd z.1 z.2).1, (k.rd z.1 z.2).2⟩) .inr) (DtAll.mono k t)
  | _, _, .tup h n t => .tup (k _ _ h n).1 (k _ _ h n).2 (DtAll.mono k t)
  | _, _, .tupK h z t => .tupK h z (DtAll.mono k t)
  | _, _, .dcT h n t => .dcT (k _ _ h n).1 (k _ _ h n).2 (DtKT.mono k t)
  | _, _, .dct h n t => .dct (k _ _ h n).1 (k _ _ h n).2 (DtKv.mono k t)
  | _, _, .exc h n => .exc (k _ _ h n).1 (k _ _ h n).2
theorem DtAll.mono (k : Kp mu H mu' H') : ∀ {vs : List V} {ds : List PyData}, DtAll K mu H vs ds → DtAll K mu' H' vs ds
  | _, _, .nil => .nil
  | _, _, .cons h t => .cons (Dt.mono k h) (DtAll.mono k t)
theorem DtKv.mono (k : Kp mu H mu' H') : ∀ {vs : List (Key × V)} {ds : List (PyData × PyData)}, DtKv K mu H vs ds → DtKv K mu' H' vs ds
  | _, _, .nil => .nil
  | _, _, .cons h t => .cons (Dt.mono k h) (DtKv.mono k t)
theorem DtKT.mono (k : Kp mu H mu' H') : ∀ {vs : List (List Key × V)} {ds : List (List Key × PyData)}, DtKT K mu H vs ds → DtKT K mu' H' vs ds
  | _, _, .nil => .nil
  | _, _, .cons h t => .cons (Dt.mono k h) (DtKT.mono k t)
end
theorem DtAll.len : ∀ {vs : List V} {ds : List PyData}, DtAll K mu H vs ds → vs.length = ds.length
  | _, _, .nil => rfl
  | _, _, .cons _ t => by rw [List.length_cons, List.length_cons, DtAll.len t]
theorem DtAll.get : ∀ {vs : List V} {ds : List PyData} {i : Nat} {d : PyData}, DtAll K mu H vs ds → ds[i]? = some d → ∃ v, vs[i]? = some v ∧ Dt K mu H v d
  | _, _, _, _, .nil, e => by simp at e
  | _, _, 0, _, .cons h _, e => by simp at e; subst e; exact ⟨_, rfl, h⟩
  | _, _, i + 1, _, .cons _ t, e => by
    obtain ⟨v, h1, h2⟩ := DtAll.get (i := i) t (by simpa using e)
    exact ⟨v, by simpa using h1, h2⟩
theorem DtAll.getv : ∀ {vs : List V} {ds : List PyData} {i : Nat} {v : V}, DtAll K mu H vs ds → vs[i]? = some v → ∃ d, ds[i]? = some d ∧ Dt K mu H v d
  | _, _, _, _, .nil, e => by simp at e
  | _, _, 0, _, .cons h _, e => by simp at e; subst e; exact ⟨_, rfl, h⟩
  | _, _, i + 1, _, .cons _ t, e => by
    obtain ⟨v, h1, h2⟩ := DtAll.getv (i := i) t (by simpa using e)
    exact ⟨v, by simpa using h1, h2⟩
theorem DtAll.append : ∀ {vs ws : List V} {ds es : List PyData}, DtAll K mu H vs ds → DtAll K mu H ws es → DtAll K mu H (vs ++ ws) (ds ++ es)
  | _, _, _, _, .nil, h => h
  | _, _, _, _, .cons h t, k => .cons h (DtAll.append t k)
theorem DtAll.take : ∀ {vs : List V} {ds : List PyData} (n : Nat), DtAll K mu H vs ds → DtAll K mu H (vs.take n) (ds.take n)
  | _, _, 0, _ => by simp; exact .nil
  | _, _, n + 1, .nil => .nil
  | _, _, n + 1, .cons h t => .cons h (DtAll.take n t)
theorem DtAll.drop : ∀ {vs : List V} {ds : List PyData} (n : Nat), DtAll K mu H vs ds → DtAll K mu H (vs.drop n) (ds.drop n)
  | _, _, 0, h => h
  | _, _, n + 1, .nil => .nil
  | _, _, n + 1, .cons h t => DtAll.drop n t
theorem DtAll.rev : ∀ {vs : List V} {ds : List PyData}, DtAll K mu H vs ds → DtAll K mu H vs.reverse ds.reverse
  | _, _, .nil => .nil
  | _, _, .cons h t => by
    rw [List.reverse_cons, List.reverse_cons]
    exact DtAll.append (DtAll.rev t) (.cons h .nil)
theorem DtAll.set {v : V} {d : PyData} (h : Dt K mu H v d) : ∀ {vs : List V} {ds : List PyData} (n : Nat), DtAll K mu H vs ds → DtAll K mu H (vs.set n v) (ds.set n d)
  | _, _, _, .nil => .nil
  | _, _, 0, .cons _ t => .cons h t
  | _, _, n + 1, .cons g t => .cons g (DtAll.set h n t)
theorem Dt.list {v : V} {ds : List PyData} (h : Dt K mu H v (.list ds)) : ∃ a xs, v = .ref a ∧ SqL K H a xs ∧ DtAll K mu H xs ds := by
  cases h with
  | lst h n t => exact ⟨_, _, rfl, .inl h, t⟩
theorem Dt.listR {v : V} {ds : List PyData} (h : Dt K mu H v (.list ds)) : ∃ a xs, v = .ref a ∧ Rd H a (.lst xs) ∧ DtAll K mu H xs ds := by
  cases h with
  | lst h n t => exact ⟨_, _, rfl, h, t⟩
theorem kD_none (k : Key) : kD k ≠ .none := by cases k <;> intro h <;> cases h
/-- the script -/
theorem Dt.script {v : V} {ds : List PyData} (h : Dt K mu H v (.dict [(.none, .list ds)])) : ∃ a xs, v = .ref a ∧ SqL K H a xs ∧ DtAll K mu H xs ds := by
  generalize e : PyData.dict [(.none, .list ds)] = d at h
  cases h with
  | scr h t =>
    cases e
    exact ⟨_, _, rfl, h.elim (fun z => .inl z.1) fun z => z H, t⟩
  | dct h n t =>
    cases e
    generalize e2 : [(PyData.none, PyData.list ds)] = kds at t
    cases t with
    | nil => cases e2
    | @cons k v vs d ds t1 t2 =>
      exact absurd (Prod.mk.inj (List.cons.inj e2).1).1.symm (kD_none k)
  | _ => cases e
/-- a dict that is one -/
def realD : List (PyData × PyData) → Bool
  | (.none, _) :: _ => false
  | _ => true
theorem Dt.real {v : V} {kvs : List (PyData × PyData)} (h : Dt K mu H v (.dict kvs)) (r : realD kvs = true) : ∃ a xs, v = .ref a ∧ H a = some (.dK xs) ∧ DtKv K mu H xs kvs := by
  cases h with
  | scr h t => cases r
  | dct h n t => exact ⟨_, _, rfl, h, t⟩
  | dcT h n t => cases r
  | exc h n => cases r
theorem Dt.tuple {v : V} {ds : List PyData} (h : Dt K mu H v (.tuple ds)) : ∃ a xs, v = .ref a ∧ SqT K H a xs ∧ DtAll K mu H xs ds := by
  cases h with
  | tup h n t => exact ⟨_, _, rfl, .inl (.inl h), t⟩
  | tupK h z t => exact ⟨_, _, rfl, h H, t⟩
theorem Dt.inti {v : V} {i : Int} (h : Dt K mu H v (.int i)) : v = .int i := by cases h; rfl
theorem Dt.bool {v : V} {b : Bool} (h : Dt K mu H v (.bool b)) : v = .bl b := by cases h; rfl
theorem Dt.text {v : V} {x : Str} (h : Dt K mu H v (.str x)) : v = .str x := by cases h; rfl
theorem Dt.none_ {v : V} (h : Dt K mu H v .none) : v = .non := by cases h; rfl
theorem DtAll.ints : ∀ {vs : List V} {ns : List Int}, DtAll K mu H vs (ns.map .int) → vs = ns.map V.int
  | _, [], .nil => rfl
  | _, n :: r, .cons h t => by
    have e := h.inti
    have e2 := DtAll.ints t
    subst e e2
    rfl
theorem DtAll.texts : ∀ {vs : List V} {ns : List Str}, DtAll K mu H vs (ns.map .str) → vs = ns.map V.str
  | _, [], .nil => rfl
  | _, n :: r, .cons h t => by
    have e := h.text
    have e2 := DtAll.texts t
    subst e e2
    rfl
theorem DtAll.bools : ∀ {vs : List V} {ns : List Bool}, DtAll K mu H vs (ns.map .bool) → vs = ns.map V.bl
  | _, [], .nil => rfl
  | _, n :: r, .cons h t => by
    have e := h.bool
    have e2 := DtAll.bools t
    subst e e2
    rfl
theorem dtAll_ints : ∀ ns : List Int, DtAll K mu H (ns.map V.int) (ns.map .int)
  | [] => .nil
  | n :: r => .cons (.int n) (dtAll_ints r)
theorem dtAll_texts : ∀ ns : List Str, DtAll K mu H (ns.map V.str) (ns.map .str)
  | [] => .nil
  | n :: r => .cons (.str n) (dtAll_texts r)
theorem dtAll_bools : ∀ ns : List Bool, DtAll K mu H (ns.map V.bl) (ns.map .bool)
  | [] => .nil
  | n :: r => .cons (.bl n) (dtAll_bools r)
end

/-! ### a body's names: data, a list of its own that it fills, the list that was handed in to be changed, nothing -/
/-- what a dict of one's own holds: keys that are tuples; keys that are numbers and texts -/
inductive Ct where
  | kT (ds : List (List Key × PyData)) | kK (ds : List (PyData × PyData))
def CtOk (K : PySem.W.Frag) (mu : Addr → Prop) (H : Hp) (a : Addr) : Ct → Prop
  | .kT ds => ∃ kvs, H a = some (.dT kvs) ∧ DtKT K mu H kvs ds
  | .kK ds => ∃ kvs, H a = some (.dK kvs) ∧ DtKv K mu H kvs ds
theorem CtOk.mono {K : PySem.W.Frag} {mu mu' : Addr → Prop} {H H' : Hp} {a : Addr} {c : Ct} (h : CtOk K mu H a c) (k : Kp mu H mu' H') (s : ∀ o, H a = some o → H' a = some o) : CtOk K mu' H' a c := by
  cases c with
  | kT ds =>
    obtain ⟨kvs, e, t⟩ := h
    exact ⟨kvs, s _ e, t.mono k⟩
  | kK ds =>
    obtain ⟨kvs, e, t⟩ := h
    exact ⟨kvs, s _ e, t.mono k⟩
theorem CtOk.there {K : PySem.W.Frag} {mu : Addr → Prop} {H : Hp} {a : Addr} {c : Ct} (h : CtOk K mu H a c) : ∃ o, H a = some o ∧ ∀ xs, o ≠ .lst xs := by
  cases c with
  | kT ds =>
    obtain ⟨kvs, e, t⟩ := h
    exact ⟨_, e, fun xs z => by cases z⟩
  | kK ds =>
    obtain ⟨kvs, e, t⟩ := h
    exact ⟨_, e, fun xs z => by cases z⟩
inductive SV where
  | dat (d : PyData) | own (ds : List PyData) | pot (i : Nat) (ds : List PyData) | no | tab (i : Nat) (q : Str) | dic (c : Ct) | rf (a : Addr)
abbrev Sl := List SV
/-- what is fixed through a body: the heap at its entry, the address of the list that may be changed -/
structure Par where
  H0 : Hp
  p : List Addr
  m0 : Addr → Prop
  nd : p.Nodup
def Mu (Z : Par) (M : List Addr) : Addr → Prop := fun a => Z.m0 a ∨ a ∈ Z.p ∨ a ∈ M

/-- .. through an expression or a statement: all that stood stands, but the list handed in and the names' own -/
def Kq (Z : Par) (M : List Addr) (H : Hp) (M' : List Addr) (H' : Hp) : Prop := ∀ a o, H a = some o → a ∉ Z.p → a ∉ M → H' a = some o ∧ a ∉ M'
theorem Kq.kp {Z : Par} {M M' : List Addr} {H H' : Hp} (k : Kq Z M H M' H') : Kp (Mu Z M) H (Mu Z M') H' := fun a o h n =>
  let ⟨h1, h2⟩ := k a o h (fun z => n (.inr (.inl z))) (fun z => n (.inr (.inr z)))
  ⟨h1, fun q => q.elim (fun z => n (.inl z)) fun q => q.elim (fun z => n (.inr (.inl z))) h2⟩
theorem Kq.refl (Z : Par) (M : List Addr) (H : Hp) : Kq Z M H M H := fun _ _ h _ n => ⟨h, n⟩
theorem Kq.trans {Z : Par} {M1 M2 M3 : List Addr} {H1 H2 H3 : Hp} (a : Kq Z M1 H1 M2 H2) (b : Kq Z M2 H2 M3 H3) : Kq Z M1 H1 M3 H3 := fun x o h p n =>
  let ⟨h2, n2⟩ := a x o h p n
  b x o h2 p n2
theorem kq_grow {Z : Par} {M : List Addr} {H H' : Hp} (g : ∀ a o, H a = some o → H' a = some o) : Kq Z M H M H' := fun a o e _ n => ⟨g a o e, n⟩

inductive SlAll (K : PySem.W.Frag) (mu : Addr → Prop) (p : List Addr) (H : Hp) : L2.St → Sl → List Addr → Prop
  | nil : SlAll K mu p H [] [] []
  | dat {v : V} {d : PyData} {σ : L2.St} {s : Sl} {M : List Addr} : Dt K mu H v d → SlAll K mu p H σ s M → SlAll K mu p H (some v :: σ) (.dat d :: s) M
  | no {x : Option V} {σ : L2.St} {s : Sl} {M : List Addr} : SlAll K mu p H σ s M → SlAll K mu p H (x :: σ) (.no :: s) M
  | own {a : Addr} {xs : List V} {ds : List PyData} {σ : L2.St} {s : Sl} {M : List Addr} : H a = some (.lst xs) → DtAll K mu H xs ds → a ∉ M → SlAll K mu p H σ s M → SlAll K mu p H (some (.ref a) :: σ) (.own ds :: s) (a :: M)
  | pot {i : Nat} {a : Addr} {xs : List V} {ds : List PyData} {σ : L2.St} {s : Sl} {M : List Addr} : p[i]? = some a → H a = some (.lst xs) → DtAll K mu H xs ds → SlAll K mu p H σ s M → SlAll K mu p H (some (.ref a) :: σ) (.pot i ds :: s) M
  | tab {i : Nat} {x : Option V} {a : Addr} {ps : Array Value} {q : Str} {σ : L2.St} {s : Sl} {M : List Addr} : p[i]? = some a → H a = some (.tbl ps) → TriplesOk ps.toList → (∀ (pos : Pos) (cv : Value), codeAmong pos ps.toList = some cv → ∃ c, cv = .ref c ∧ H c = some (LamX.CodeO c q) ∧ ¬ mu c) → SlAll K mu p H σ s M → SlAll K mu p H (x :: σ) (.tab i q :: s) M
  | rf {a : Addr} {σ : L2.St} {s : Sl} {M : List Addr} : SlAll K mu p H σ s M → SlAll K mu p H (some (.ref a) :: σ) (.rf a :: s) M
  | dic {a : Addr} {c : Ct} {σ : L2.St} {s : Sl} {M : List Addr} : CtOk K mu H a c → a ∉ M → SlAll K mu p H σ s M → SlAll K mu p H (some (.ref a) :: σ) (.dic c :: s) (a :: M)

structure Rel (K : PySem.W.Frag) (Z : Par) (M : List Addr) (σ : L2.St) (H : Hp) (s : Sl) : Prop where
  base : ∀ a o, Z.H0 a = some o → a ∉ Z.p → H a = some o
  fr : ∀ a ∈ M, Z.H0 a = none ∧ a ∉ Z.p ∧ ¬ Z.m0 a ∧ ∃ o, H a = some o
  mz : ∀ a, Z.m0 a → ∃ o, H a = some o
  pt : ∀ a, a ∈ Z.p → ∃ o, H a = some o
  sl : SlAll K (Mu Z M) Z.p H σ s M

section
variable {K : PySem.W.Frag} {mu mu' : Addr → Prop} {H H' : Hp} {p : List Addr} {Z : Par} {M M' : List Addr} {σ : L2.St} {s : Sl}
theorem Rel.muT (r : Rel K Z M σ H s) : ∀ a, Mu Z M a → ∃ o, H a = some o := fun a h => by
  rcases h with h | h | h
  · exact r.mz a h
  · exact r.pt a h
  · exact (r.fr a h).2.2.2
theorem SlAll.grow (g : ∀ a o, H a = some o → H' a = some o) : ∀ {σ : L2.St} {s : Sl} {M : List Addr}, SlAll K mu p H σ s M → SlAll K mu p H' σ s M
  | _, _, _, .nil => .nil
  | _, _, _, .dat h t => .dat (h.mono fun a o e n => ⟨g a o e, n⟩) (SlAll.grow g t)
  | _, _, _, .no t => .no (SlAll.grow g t)
  | _, _, _, .rf t => .rf (SlAll.grow g t)
  | _, _, _, .own h d n t => .own (g _ _ h) (d.mono fun a o e n => ⟨g a o e, n⟩) n (SlAll.grow g t)
  | _, _, _, .pot e h d t => .pot e (g _ _ h) (d.mono fun a o e n => ⟨g a o e, n⟩) (SlAll.grow g t)
  | _, _, _, .tab e h d f t => .tab e (g _ _ h) d (fun pos cv z => let ⟨c, h1, h2, h3⟩ := f pos cv z; ⟨c, h1, g _ _ h2, h3⟩) (SlAll.grow g t)
  | _, _, _, .dic h n t => .dic (h.mono (fun a o e n => ⟨g a o e, n⟩) (g _)) n (SlAll.grow g t)
theorem Rel.grow (r : Rel K Z M σ H s) (g : ∀ a o, H a = some o → H' a = some o) : Rel K Z M σ H' s :=
  ⟨fun a o h n => g a o (r.base a o h n), fun a h => ⟨(r.fr a h).1, (r.fr a h).2.1, (r.fr a h).2.2.1, let ⟨o, e⟩ := (r.fr a h).2.2.2; ⟨o, g a o e⟩⟩, fun a h => let ⟨o, e⟩ := r.mz a h; ⟨o, g a o e⟩, fun a h => let ⟨o, e⟩ := r.pt a h; ⟨o, g a o e⟩, r.sl.grow g⟩
theorem kp_grow (g : ∀ a o, H a = some o → H' a = some o) : Kp mu H mu H' := fun a o e n => ⟨g a o e, n⟩
theorem SlAll.len : ∀ {σ : L2.St} {s : Sl} {M : List Addr}, SlAll K mu p H σ s M → σ.length = s.length
  | _, _, _, .nil => rfl
  | _, _, _, .dat h t => by simp [SlAll.len t]
  | _, _, _, .no t => by simp [SlAll.len t]
  | _, _, _, .rf t => by simp [SlAll.len t]
  | _, _, _, .own h d n t => by simp [SlAll.len t]
  | _, _, _, .pot e h d t => by simp [SlAll.len t]
  | _, _, _, .tab e h d f t => by simp [SlAll.len t]
  | _, _, _, .dic h n t => by simp [SlAll.len t]
theorem SlAll.get : ∀ {σ : L2.St} {s : Sl} {M : List Addr} {i : Nat} {d : PyData}, SlAll K mu p H σ s M → s[i]? = some (.dat d) → ∃ v, σ[i]? = some (some v) ∧ Dt K mu H v d
  | _, _, _, _, _, .nil, e => by simp at e
  | _, _, _, 0, _, .dat h t, e => by simp at e; subst e; exact ⟨_, rfl, h⟩
  | _, _, _, 0, _, .no t, e => by simp at e
  | _, _, _, 0, _, .rf t, e => by simp at e
  | _, _, _, 0, _, .own .., e => by simp at e
  | _, _, _, 0, _, .pot .., e => by simp at e
  | _, _, _, i + 1, _, .dat h t, e => by simpa using SlAll.get (i := i) t (by simpa using e)
  | _, _, _, i + 1, _, .no t, e => by simpa using SlAll.get (i := i) t (by simpa using e)
  | _, _, _, i + 1, _, .rf t, e => by simpa using SlAll.get (i := i) t (by simpa using e)
  | _, _, _, i + 1, _, .own _ _ _ t, e => by simpa using SlAll.get (i := i) t (by simpa using e)
  | _, _, _, i + 1, _, .pot _ _ _ t, e => by simpa using SlAll.get (i := i) t (by simpa using e)
  | _, _, _, 0, _, .tab .., e => by simp at e
  | _, _, _, i + 1, _, .tab _ _ _ _ t, e => by simpa using SlAll.get (i := i) t (by simpa using e)
  | _, _, _, 0, _, .dic .., e => by simp at e
  | _, _, _, i + 1, _, .dic _ _ t, e => by simpa using SlAll.get (i := i) t (by simpa using e)
theorem SlAll.getPot {k : Nat} : ∀ {σ : L2.St} {s : Sl} {M : List Addr} {i : Nat} {ds : List PyData}, SlAll K mu p H σ s M → s[i]? = some (.pot k ds) → ∃ a xs, σ[i]? = some (some (.ref a)) ∧ p[k]? = some a ∧ H a = some (.lst xs) ∧ DtAll K mu H xs ds
  | _, _, _, _, _, .nil, e => by simp at e
  | _, _, _, 0, _, .dat h t, e => by simp at e
  | _, _, _, 0, _, .no t, e => by simp at e
  | _, _, _, 0, _, .rf t, e => by simp at e
  | _, _, _, 0, _, .own .., e => by simp at e
  | _, _, _, 0, _, .pot h1 h2 h3 t, e => by simp at e; obtain ⟨e1, e2⟩ := e; subst e1 e2; exact ⟨_, _, rfl, h1, h2, h3⟩
  | _, _, _, i + 1, _, .dat h t, e => by simpa using SlAll.getPot (i := i) t (by simpa using e)
  | _, _, _, i + 1, _, .no t, e => by simpa using SlAll.getPot (i := i) t (by simpa using e)
  | _, _, _, i + 1, _, .rf t, e => by simpa using SlAll.getPot (i := i) t (by simpa using e)
  | _, _, _, i + 1, _, .own _ _ _ t, e => by simpa using SlAll.getPot (i := i) t (by simpa using e)
  | _, _, _, i + 1, _, .pot _ _ _ t, e => by simpa using SlAll.getPot (i := i) t (by simpa using e)
  | _, _, _, 0, _, .tab .., e => by simp at e
  | _, _, _, i + 1, _, .tab _ _ _ _ t, e => by simpa using SlAll.getPot (i := i) t (by simpa using e)
  | _, _, _, 0, _, .dic .., e => by simp at e
  | _, _, _, i + 1, _, .dic _ _ t, e => by simpa using SlAll.getPot (i := i) t (by simpa using e)
theorem SlAll.getOwn : ∀ {σ : L2.St} {s : Sl} {M : List Addr} {i : Nat} {ds : List PyData}, SlAll K mu p H σ s M → s[i]? = some (.own ds) → ∃ a xs, σ[i]? = some (some (.ref a)) ∧ a ∈ M ∧ H a = some (.lst xs) ∧ DtAll K mu H xs ds
  | _, _, _, _, _, .nil, e => by simp at e
  | _, _, _, 0, _, .dat h t, e => by simp at e
  | _, _, _, 0, _, .no t, e => by simp at e
  | _, _, _, 0, _, .rf t, e => by simp at e
  | _, _, _, 0, _, .own h2 h3 n t, e => by simp at e; subst e; exact ⟨_, _, rfl, List.mem_cons_self, h2, h3⟩
  | _, _, _, 0, _, .pot .., e => by simp at e
  | _, _, _, i + 1, _, .dat h t, e => by simpa using SlAll.getOwn (i := i) t (by simpa using e)
  | _, _, _, i + 1, _, .no t, e => by simpa using SlAll.getOwn (i := i) t (by simpa using e)
  | _, _, _, i + 1, _, .rf t, e => by simpa using SlAll.getOwn (i := i) t (by simpa using e)
  | _, _, _, i + 1, _, .own _ _ _ t, e => by
    obtain ⟨a, xs, h1, h2, h3⟩ := SlAll.getOwn (i := i) t (by simpa using e)
    exact ⟨a, xs, by simpa using h1, List.mem_cons_of_mem _ h2, h3⟩
  | _, _, _, i + 1, _, .pot _ _ _ t, e => by simpa using SlAll.getOwn (i := i) t (by simpa using e)
  | _, _, _, 0, _, .tab .., e => by simp at e
  | _, _, _, i + 1, _, .tab _ _ _ _ t, e => by simpa using SlAll.getOwn (i := i) t (by simpa using e)
  | _, _, _, 0, _, .dic .., e => by simp at e
  | _, _, _, i + 1, _, .dic _ _ t, e => by
    obtain ⟨a, xs, h1, h2, h3⟩ := SlAll.getOwn (i := i) t (by simpa using e)
    exact ⟨a, xs, by simpa using h1, List.mem_cons_of_mem _ h2, h3⟩
theorem SlAll.getDic : ∀ {σ : L2.St} {s : Sl} {M : List Addr} {i : Nat} {c : Ct}, SlAll K mu p H σ s M → s[i]? = some (.dic c) → ∃ a, σ[i]? = some (some (.ref a)) ∧ a ∈ M ∧ CtOk K mu H a c
  | _, _, _, _, _, .nil, e => by simp at e
  | _, _, _, 0, _, .dat h t, e => by simp at e
  | _, _, _, 0, _, .no t, e => by simp at e
  | _, _, _, 0, _, .rf t, e => by simp at e
  | _, _, _, 0, _, .own .., e => by simp at e
  | _, _, _, 0, _, .pot .., e => by simp at e
  | _, _, _, 0, _, .tab .., e => by simp at e
  | _, _, _, 0, _, .dic h n t, e => by simp at e; subst e; exact ⟨_, rfl, List.mem_cons_self, h⟩
  | _, _, _, i + 1, _, .dat h t, e => by simpa using SlAll.getDic (i := i) t (by simpa using e)
  | _, _, _, i + 1, _, .no t, e => by simpa using SlAll.getDic (i := i) t (by simpa using e)
  | _, _, _, i + 1, _, .rf t, e => by simpa using SlAll.getDic (i := i) t (by simpa using e)
  | _, _, _, i + 1, _, .own _ _ _ t, e => by
    obtain ⟨a, h1, h2, h3⟩ := SlAll.getDic (i := i) t (by simpa using e)
    exact ⟨a, by simpa using h1, List.mem_cons_of_mem _ h2, h3⟩
  | _, _, _, i + 1, _, .pot _ _ _ t, e => by simpa using SlAll.getDic (i := i) t (by simpa using e)
  | _, _, _, i + 1, _, .tab _ _ _ _ t, e => by simpa using SlAll.getDic (i := i) t (by simpa using e)
  | _, _, _, i + 1, _, .dic _ _ t, e => by
    obtain ⟨a, h1, h2, h3⟩ := SlAll.getDic (i := i) t (by simpa using e)
    exact ⟨a, by simpa using h1, List.mem_cons_of_mem _ h2, h3⟩
/-- a wider or other set of what may be written, where what is read stays -/
theorem SlAll.kp (k : Kp mu H mu' H') (ho : ∀ a o, a ∈ M → H a = some o → H' a = some o) (hp : ∀ a o, a ∈ p → H a = some o → H' a = some o) : ∀ {σ : L2.St} {s : Sl} {M2 : List Addr}, (∀ a ∈ M2, a ∈ M) → SlAll K mu p H σ s M2 → SlAll K mu' p H' σ s M2
  | _, _, _, _, .nil => .nil
  | _, _, _, hs, .dat h t => .dat (h.mono k) (SlAll.kp k ho hp hs t)
  | _, _, _, hs, .no t => .no (SlAll.kp k ho hp hs t)
  | _, _, _, hs, .rf t => .rf (SlAll.kp k ho hp hs t)
  | _, _, _, hs, .own h d n t => .own (ho _ _ (hs _ List.mem_cons_self) h) (d.mono k) n (SlAll.kp k ho hp (fun a h => hs a (List.mem_cons_of_mem _ h)) t)
  | _, _, _, hs, .pot e h d t => .pot e (hp _ _ (List.mem_of_getElem? e) h) (d.mono k) (SlAll.kp k ho hp hs t)
  | _, _, _, hs, .tab e h d f t => .tab e (hp _ _ (List.mem_of_getElem? e) h) d (fun pos cv z => let ⟨c, h1, h2, h3⟩ := f pos cv z; ⟨c, h1, (k _ _ h2 h3).1, (k _ _ h2 h3).2⟩) (SlAll.kp k ho hp hs t)
  | _, _, _, hs, .dic h n t => .dic (h.mono k fun o => ho _ o (hs _ List.mem_cons_self)) n (SlAll.kp k ho hp (fun a h => hs a (List.mem_cons_of_mem _ h)) t)
/-- a name is given data -/
theorem SlAll.setDat {v : V} {d : PyData} (hv : Dt K mu H v d) : ∀ {σ : L2.St} {s : Sl} {M : List Addr} (i : Nat), SlAll K mu p H σ s M → ∃ M', (∀ a ∈ M', a ∈ M) ∧ SlAll K mu p H (σ.set i (some v)) (s.set i (.dat d)) M'
  | _, _, _, _, .nil => ⟨[], fun _ h => h, .nil⟩
  | _, _, _, 0, .dat h t => ⟨_, fun _ h => h, .dat hv t⟩
  | _, _, _, 0, .no t => ⟨_, fun _ h => h, .dat hv t⟩
  | _, _, _, 0, .rf t => ⟨_, fun _ h => h, .dat hv t⟩
  | _, _, _, 0, .own h d n t => ⟨_, fun _ h => List.mem_cons_of_mem _ h, .dat hv t⟩
  | _, _, _, 0, .pot e h d t => ⟨_, fun _ h => h, .dat hv t⟩
  | _, _, _, 0, .tab e h d f t => ⟨_, fun _ h => h, .dat hv t⟩
  | _, _, _, i + 1, .dat h t => let ⟨M', a, b⟩ := SlAll.setDat hv i t; ⟨M', a, .dat h b⟩
  | _, _, _, i + 1, .no t => let ⟨M', a, b⟩ := SlAll.setDat hv i t; ⟨M', a, .no b⟩
  | _, _, _, i + 1, .rf t => let ⟨M', a, b⟩ := SlAll.setDat hv i t; ⟨M', a, .rf b⟩
  | _, _, _, i + 1, .own h d n t => let ⟨M', a, b⟩ := SlAll.setDat hv i t; ⟨_ :: M', fun c hc => by
      rcases List.mem_cons.mp hc with e | e
      · rw [e]; exact List.mem_cons_self
      · exact List.mem_cons_of_mem _ (a c e), .own h d (fun hc => n (a _ hc)) b⟩
  | _, _, _, i + 1, .pot e h d t => let ⟨M', a, b⟩ := SlAll.setDat hv i t; ⟨M', a, .pot e h d b⟩
  | _, _, _, i + 1, .tab e h d f t => let ⟨M', a, b⟩ := SlAll.setDat hv i t; ⟨M', a, .tab e h d f b⟩
  | _, _, _, 0, .dic h n t => ⟨_, fun _ h => List.mem_cons_of_mem _ h, .dat hv t⟩
  | _, _, _, i + 1, .dic h n t => let ⟨M', a, b⟩ := SlAll.setDat hv i t; ⟨_ :: M', fun c hc => by
      rcases List.mem_cons.mp hc with e | e
      · rw [e]; exact List.mem_cons_self
      · exact List.mem_cons_of_mem _ (a c e), .dic h (fun hc => n (a _ hc)) b⟩
theorem Rel.setDat {v : V} {d : PyData} (r : Rel K Z M σ H s) (hv : Dt K (Mu Z M) H v d) (i : Nat) : ∃ M', (∀ a ∈ M', a ∈ M) ∧ Rel K Z M' (σ.set i (some v)) H (s.set i (.dat d)) ∧ Kq Z M H M' H := by
  obtain ⟨M', h1, h2⟩ := r.sl.setDat hv i
  have k : Kp (Mu Z M) H (Mu Z M') H := fun a o e n => ⟨e, fun q => n (q.elim .inl fun z => .inr (z.elim .inl fun z => .inr (h1 a z)))⟩
  exact ⟨M', h1, ⟨r.base, fun a h => r.fr a (h1 a h), r.mz, r.pt, h2.kp k (M := M') (fun _ _ _ e => e) (fun _ _ _ e => e) (fun _ h => h)⟩, fun a o e _ n => ⟨e, fun z => n (h1 a z)⟩⟩
end
end Dl

namespace Dl
open PySem PySem.Spec PyProof.Rows L2

/-! ### meanings -/
abbrev DE := Sl → Option (PyData × Sl)
abbrev DT := Sl → Option (Bool × Sl)
abbrev DA := Sl → Option (List PyData × Sl)
inductive Fl where
  | nx (s : Sl) | rt (d : PyData) (s : Sl) | bk (s : Sl) | ct (s : Sl)
abbrev DS := Sl → Option Fl

def lft (K : PySem.W.Frag) (Z : Par) (f : DE) : TE := fun σ H Q => ∃ M s d s', Rel K Z M σ H s ∧ f s = some (d, s') ∧ ∀ v H', Kq Z M H M H' → Rel K Z M σ H' s' → Dt K (Mu Z M) H' v d → Q v H'
def lfT (K : PySem.W.Frag) (Z : Par) (f : DT) : TT := fun σ H Q => ∃ M s d s', Rel K Z M σ H s ∧ f s = some (d, s') ∧ ∀ H', Kq Z M H M H' → Rel K Z M σ H' s' → Q d H'
def lfA (K : PySem.W.Frag) (Z : Par) (f : DA) : TA := fun σ H Q => ∃ M s d s', Rel K Z M σ H s ∧ f s = some (d, s') ∧ ∀ vs H', Kq Z M H M H' → Rel K Z M σ H' s' → DtAll K (Mu Z M) H' vs d → Q vs H'
/-- what a statement leaves -/
def FlOk (K : PySem.W.Frag) (Z : Par) (M0 : List Addr) (H0 : Hp) (D : Ends) : Fl → Prop
  | .nx s => ∀ M σ H, Kq Z M0 H0 M H → Rel K Z M σ H s → D.nx σ H
  | .rt d s => ∀ M σ H v, Kq Z M0 H0 M H → Rel K Z M σ H s → Dt K (Mu Z M) H v d → D.rt v H
  | .bk s => ∀ M σ H, Kq Z M0 H0 M H → Rel K Z M σ H s → D.bk σ H
  | .ct s => ∀ M σ H, Kq Z M0 H0 M H → Rel K Z M σ H s → D.ct σ H
def lfS (K : PySem.W.Frag) (Z : Par) (f : DS) : TS := fun D σ H => ∃ M s fl, Rel K Z M σ H s ∧ f s = some fl ∧ FlOk K Z M H D fl

theorem PEimp {X : Cx} {e : Expr} {t t' : TE} (h : PE X e t) (i : ∀ σ H Q, t' σ H Q → t σ H Q) : PE X e t' := ⟨fun pins s σ H Q I q => h.run pins s σ H Q I (i σ H Q q)⟩
theorem PTimp {X : Cx} {e : Expr} {t t' : TT} (h : PT X e t) (i : ∀ σ H Q, t' σ H Q → t σ H Q) : PT X e t' := ⟨fun pins s σ H Q I q => h.run pins s σ H Q I (i σ H Q q)⟩
theorem PWimp {X : Cx} {e : Expr} {t t' : TT} (h : PW X e t) (i : ∀ σ H Q, t' σ H Q → t σ H Q) : PW X e t' := ⟨fun w pins s σ H Q I q => h.run w pins s σ H Q I (i σ H Q q)⟩
theorem PAimp {X : Cx} {e : List Expr} {t t' : TA} (h : PA X e t) (i : ∀ σ H Q, t' σ H Q → t σ H Q) : PA X e t' := ⟨fun pos pins s σ H Q I q => h.run pos pins s σ H Q I (i σ H Q q)⟩
theorem PSimp {X : Cx} {e : Stmt} {t t' : TS} (h : PS X e t) (i : ∀ D σ H, t' D σ H → t D σ H) : PS X e t' := ⟨fun pins s σ H D I q => h.run pins s σ H D I (i D σ H q)⟩
theorem PSsimp {X : Cx} {e : List Stmt} {t t' : TS} (h : PSs X e t) (i : ∀ D σ H, t' D σ H → t D σ H) : PSs X e t' := ⟨fun pins s σ H D I q => h.run pins s σ H D I (i D σ H q)⟩

/-! ### names, constants -/
def dVar (i : Nat) : DE := fun s => match s[i]? with
  | some (.dat d) => some (d, s)
  | _ => none
def dC (d : PyData) : DE := fun s => some (d, s)
theorem dVar_some {i : Nat} {s s' : Sl} {d : PyData} (h : dVar i s = some (d, s')) : s[i]? = some (.dat d) ∧ s' = s := by
  unfold dVar at h
  split at h
  · rename_i d' e
    simp only [Option.some.injEq, Prod.mk.injEq] at h
    obtain ⟨rfl, rfl⟩ := h
    exact ⟨e, rfl⟩
  · cases h

section
variable {X : Cx} {Z : Par} {a b e : Expr} {es : List Expr} {pos : Pos} {fa fb fc : DE}
theorem dv (i : Nat) {x : Str} {pos : Pos} (hN : X.N[i]? = some x := by rfl) (hv : Vis X.env.scope x := by first | exact Or.inl rfl | exact Or.inr (Or.inl rfl) | exact Or.inr (Or.inr rfl)) (hd : (x == ("__debug__" : Str)) = false := by decide)
    (hcd : (x == ("__classdict__" : Str)) = false := by decide) : PE X (.Name x pos) (lft X.K Z (dVar i)) := PEimp (pe_var hN hv hd hcd) fun σ H Q h => by
  obtain ⟨M, s, d, s', r, hf, k⟩ := h
  obtain ⟨e, rfl⟩ := dVar_some hf
  obtain ⟨v, h1, h2⟩ := r.sl.get e
  exact ⟨v, h1, k v H (Kq.refl _ _ _) r h2⟩
theorem lft_c {v : V} {d : PyData} (hv : ∀ mu H, Dt X.K mu H v d) {t : TE} (ht : t = tC v) (he : PE X e t) : PE X e (lft X.K Z (dC d)) := PEimp (by rw [ht] at he; exact he) fun σ H Q h => by
  obtain ⟨M, s, d', s', r, hf, k⟩ := h
  cases hf
  exact k v H (Kq.refl _ _ _) r (hv _ _)
theorem di {i : Int} {j pos} : PE X (.Constant (.int i) j pos) (lft X.K Z (dC (.int i))) := lft_c (fun _ _ => .int i) rfl pe_int
theorem ds {x : Str} {j pos} : PE X (.Constant (.str x) j pos) (lft X.K Z (dC (.str x))) := lft_c (fun _ _ => .str x) rfl pe_str
theorem db {b : Bool} {j pos} : PE X (.Constant (.bool b) j pos) (lft X.K Z (dC (.bool b))) := lft_c (fun _ _ => .bl b) rfl pe_bl
theorem dn {j pos} : PE X (.Constant .none j pos) (lft X.K Z (dC .none)) := lft_c (fun _ _ => .non) rfl pe_non
/-- a module's constant -/
theorem dg {x : Str} {v : V} {u : Value} {d : PyData} (hg : Gl X x) (hm : X.mg x = some u) (r : RelV v u) (hv : ∀ mu H, Dt X.K mu H v d) (hd : (x == ("__debug__" : Str)) = false := by decide) : PE X (.Name x pos) (lft X.K Z (dC d)) := lft_c hv rfl (pe_glob hg hm r hd)

/-! ### operators by trees -/
def dOp (g : PyData → PyData → Option PyData) (fa fb : DE) : DE := fun s => (fa s).bind fun p => (fb p.2).bind fun q => (g p.1 q.1).map fun d => (d, q.2)
def dUn (g : PyData → Option PyData) (fa : DE) : DE := fun s => (fa s).bind fun p => (g p.1).map fun d => (d, p.2)
theorem dOp_some {g : PyData → PyData → Option PyData} {s s' : Sl} {d : PyData} (h : dOp g fa fb s = some (d, s')) : ∃ d1 s1 d2, fa s = some (d1, s1) ∧ fb s1 = some (d2, s') ∧ g d1 d2 = some d := by
  unfold dOp at h
  simp only [Option.bind_eq_some_iff, Option.map_eq_some_iff] at h
  obtain ⟨⟨d1, s1⟩, h1, ⟨d2, s2⟩, h2, d', h3, h4⟩ := h
  cases h4
  exact ⟨d1, s1, d2, h1, h2, h3⟩
theorem dUn_some {g : PyData → Option PyData} {s s' : Sl} {d : PyData} (h : dUn g fa s = some (d, s')) : ∃ d1, fa s = some (d1, s') ∧ g d1 = some d := by
  unfold dUn at h
  simp only [Option.bind_eq_some_iff, Option.map_eq_some_iff] at h
  obtain ⟨⟨d1, s1⟩, h1, d', h3, h4⟩ := h
  cases h4
  exact ⟨d1, h1, h3⟩
/-- a rule by values does what g says of trees -/
def OpOk (K : PySem.W.Frag) (r : R2) (g : PyData → PyData → Option PyData) : Prop := ∀ (mu : Addr → Prop) (H : Hp) (x y : V) (d1 d2 d : PyData) (Q : VK), (∀ a, mu a → ∃ o, H a = some o) → Dt K mu H x d1 → Dt K mu H y d2 → g d1 d2 = some d →
  (∀ v H', (∀ a o, H a = some o → H' a = some o) → Dt K mu H' v d → Q v H') → r x y H Q
def UnOk (K : PySem.W.Frag) (r : V → Hp → VK → Prop) (g : PyData → Option PyData) : Prop := ∀ (mu : Addr → Prop) (H : Hp) (x : V) (d1 d : PyData) (Q : VK), (∀ a, mu a → ∃ o, H a = some o) → Dt K mu H x d1 → g d1 = some d →
  (∀ v H', (∀ a o, H a = some o → H' a = some o) → Dt K mu H' v d → Q v H') → r x H Q
def CallOk (K : PySem.W.Frag) (r : List V → Hp → VK → Prop) (g : List PyData → Option PyData) : Prop := ∀ (mu : Addr → Prop) (H : Hp) (xs : List V) (ds : List PyData) (d : PyData) (Q : VK), (∀ a, mu a → ∃ o, H a = some o) → DtAll K mu H xs ds → g ds = some d →
  (∀ v H', (∀ a o, H a = some o → H' a = some o) → Dt K mu H' v d → Q v H') → r xs H Q
theorem lift_op {r : R2} {g : PyData → PyData → Option PyData} (ok : OpOk X.K r g) {σ : L2.St} {H : Hp} {Q : VK} (h : lft X.K Z (dOp g fa fb) σ H Q) : tOp r (lft X.K Z fa) (lft X.K Z fb) σ H Q := by
  obtain ⟨M, s, d, s', rl, hf, k⟩ := h
  obtain ⟨d1, s1, d2, h1, h2, h3⟩ := dOp_some hf
  refine ⟨M, s, d1, s1, rl, h1, fun x H1 k1 r1 t1 => ⟨M, s1, d2, s', r1, h2, fun y H2 k2 r2 t2 => ?_⟩⟩
  refine ok (Mu Z M) H2 x y d1 d2 d Q r2.muT (t1.mono k2.kp) t2 h3 fun v H3 g3 t3 => ?_
  exact k v H3 (k1.trans (k2.trans (kq_grow g3))) (r2.grow g3) t3
theorem lift_un {r : V → Hp → VK → Prop} {g : PyData → Option PyData} (ok : UnOk X.K r g) {σ : L2.St} {H : Hp} {Q : VK} (h : lft X.K Z (dUn g fa) σ H Q) : tUn r (lft X.K Z fa) σ H Q := by
  obtain ⟨M, s, d, s', rl, hf, k⟩ := h
  obtain ⟨d1, h1, h3⟩ := dUn_some hf
  refine ⟨M, s, d1, s', rl, h1, fun x H1 k1 r1 t1 => ?_⟩
  refine ok (Mu Z M) H1 x d1 d Q r1.muT t1 h3 fun v H3 g3 t3 => ?_
  exact k v H3 (k1.trans (kq_grow g3)) (r1.grow g3) t3
theorem do_ {op : Operator} {r : R2} {g : PyData → PyData → Option PyData} (ho : OpR X (binaryOp op) r) (ok : OpOk X.K r g) (ha : PE X a (lft X.K Z fa)) (hb : PE X b (lft X.K Z fb)) : PE X (.BinOp a op b pos) (lft X.K Z (dOp g fa fb)) :=
  PEimp (pe_op ho ha hb) fun _ _ _ h => lift_op ok h
theorem du {op : UnaryOp} {r : V → Hp → VK → Prop} {g : PyData → Option PyData} (ho : UnR X (unaryOp op) r) (ok : UnOk X.K r g) (ha : PE X a (lft X.K Z fa)) : PE X (.UnaryOp op a pos) (lft X.K Z (dUn g fa)) :=
  PEimp (pe_un ho ha) fun _ _ _ h => lift_un ok h
theorem dcmp {op : CmpOp} {r : R2} {g : PyData → PyData → Option PyData} (ho : OpR X (compareOp op) r) (ok : OpOk X.K r g) (ha : PE X a (lft X.K Z fa)) (hb : PE X b (lft X.K Z fb)) (hm : behindInMarks op b = false) : PE X (.Compare a [op] [b] pos) (lft X.K Z (dOp g fa fb)) :=
  PEimp (pe_cmpR ho ha hb hm) fun _ _ _ h => lift_op ok h
theorem dix {r : R2} {g : PyData → PyData → Option PyData} (ho : IxR X r) (ok : OpOk X.K r g) (ha : PE X a (lft X.K Z fa)) (hb : PE X b (lft X.K Z fb)) (hs : PlainIx b := by exact fun _ _ => rfl) : PE X (.Subscript a b pos) (lft X.K Z (dOp g fa fb)) :=
  PEimp (pe_ix ho ha hb hs) fun _ _ _ h => lift_op ok h

/-! ### tests -/
def dTst (f : DE) : DT := fun s => (f s).bind fun p => match p.1 with
  | .bool b => some (b, p.2)
  | _ => none
theorem dTst_some {f : DE} {s s' : Sl} {b : Bool} (h : dTst f s = some (b, s')) : f s = some (.bool b, s') := by
  unfold dTst at h
  simp only [Option.bind_eq_some_iff] at h
  obtain ⟨⟨d1, s1⟩, h1, h2⟩ := h
  dsimp only at h2
  split at h2
  · cases h2; exact h1
  · cases h2
theorem lift_tB {f : DE} {σ : L2.St} {H : Hp} {Q : Bool → Hp → Prop} (h : lfT X.K Z (dTst f) σ H Q) : tB (lft X.K Z f) σ H Q := by
  obtain ⟨M, s, b, s', rl, hf, k⟩ := h
  exact ⟨M, s, .bool b, s', rl, dTst_some hf, fun v H' k1 r1 t1 => ⟨b, t1.bool, k H' k1 r1⟩⟩
/-- an expression that gives a bool, as a test -/
theorem dt (h : PE X e (lft X.K Z fa)) (he : ∀ whole, isTrue e X.env whole = (do let v ← whole; standAt e.pos; holding [v] (truthy v)) := by intro _; rfl) : PT X e (lfT X.K Z (dTst fa)) := PTimp (pt_val h he) fun _ _ _ h => lift_tB h
theorem dtcmp {op : CmpOp} {r : R2} {g : PyData → PyData → Option PyData} (ho : OpR X (compareOp op) r) (ok : OpOk X.K r g) (ha : PE X a (lft X.K Z fa)) (hb : PE X b (lft X.K Z fb)) (hm : behindInMarks op b = false) : PT X (.Compare a [op] [b] pos) (lfT X.K Z (dTst (dOp g fa fb))) :=
  PTimp (pt_cmpR ho ha hb hm) fun σ H Q h => by
    obtain ⟨M, s, b, s', rl, hf, k⟩ := h
    exact lift_op ok ⟨M, s, .bool b, s', rl, dTst_some hf, fun v H' k1 r1 t1 => ⟨b, t1.bool, k H' k1 r1⟩⟩
variable {ta tb : DT} {rest : List Expr}
def dAndT (f g : DT) : DT := fun s => (f s).bind fun p => if p.1 = true then g p.2 else some (false, p.2)
def dOrT (f g : DT) : DT := fun s => (f s).bind fun p => if p.1 = true then some (true, p.2) else g p.2
def dNotT (f : DT) : DT := fun s => (f s).map fun p => (!p.1, p.2)
theorem dtand (ha : PT X a (lfT X.K Z ta)) (hb : PW X (.BoolOp .And (b :: rest) pos) (lfT X.K Z tb)) : PW X (.BoolOp .And (a :: b :: rest) pos) (lfT X.K Z (dAndT ta tb)) := PWimp (pw_and ha hb) fun σ H Q h => by
  obtain ⟨M, s, c, s', rl, hf, k⟩ := h
  unfold dAndT at hf
  simp only [Option.bind_eq_some_iff] at hf
  obtain ⟨⟨c1, s1⟩, h1, h2⟩ := hf
  refine ⟨M, s, c1, s1, rl, h1, fun H1 k1 r1 => ?_⟩
  cases c1 with
  | true => exact ⟨M, s1, c, s', r1, h2, fun H2 k2 r2 => k H2 (k1.trans k2) r2⟩
  | false => cases h2; exact k H1 k1 r1
theorem dtor (ha : PT X a (lfT X.K Z ta)) (hb : PW X (.BoolOp .Or (b :: rest) pos) (lfT X.K Z tb)) : PW X (.BoolOp .Or (a :: b :: rest) pos) (lfT X.K Z (dOrT ta tb)) := PWimp (pw_or ha hb) fun σ H Q h => by
  obtain ⟨M, s, c, s', rl, hf, k⟩ := h
  unfold dOrT at hf
  simp only [Option.bind_eq_some_iff] at hf
  obtain ⟨⟨c1, s1⟩, h1, h2⟩ := hf
  refine ⟨M, s, c1, s1, rl, h1, fun H1 k1 r1 => ?_⟩
  cases c1 with
  | false => exact ⟨M, s1, c, s', r1, h2, fun H2 k2 r2 => k H2 (k1.trans k2) r2⟩
  | true => cases h2; exact k H1 k1 r1
theorem dtnot (ha : PT X a (lfT X.K Z ta)) : PT X (.UnaryOp .Not a pos) (lfT X.K Z (dNotT ta)) := PTimp (pt_not ha) fun σ H Q h => by
  obtain ⟨M, s, c, s', rl, hf, k⟩ := h
  unfold dNotT at hf
  simp only [Option.map_eq_some_iff] at hf
  obtain ⟨⟨c1, s1⟩, h1, h2⟩ := hf
  cases h2
  exact ⟨M, s, c1, s1, rl, h1, fun H1 k1 r1 => k H1 k1 r1⟩
/-! and, or, not as values; all but the last bools -/
def dAnd (f g : DE) : DE := fun s => (dTst f s).bind fun p => if p.1 = true then g p.2 else some (.bool false, p.2)
def dOr (f g : DE) : DE := fun s => (dTst f s).bind fun p => if p.1 = true then some (.bool true, p.2) else g p.2
def dNot (f : DE) : DE := fun s => (dTst f s).map fun p => (.bool (!p.1), p.2)
theorem dand (ha : PE X a (lft X.K Z fa)) (hb : PE X (.BoolOp .And (b :: rest) pos) (lft X.K Z fb)) : PE X (.BoolOp .And (a :: b :: rest) pos) (lft X.K Z (dAnd fa fb)) := PEimp (pe_and ha hb) fun σ H Q h => by
  obtain ⟨M, s, c, s', rl, hf, k⟩ := h
  unfold dAnd at hf
  simp only [Option.bind_eq_some_iff] at hf
  obtain ⟨⟨c1, s1⟩, h1, h2⟩ := hf
  refine ⟨M, s, .bool c1, s1, rl, dTst_some h1, fun v H1 k1 r1 t1 => ⟨c1, t1.bool, ?_⟩⟩
  cases c1 with
  | true => exact ⟨M, s1, c, s', r1, h2, fun v2 H2 k2 r2 t2 => k v2 H2 (k1.trans k2) r2 t2⟩
  | false => cases h2; exact k _ H1 k1 r1 (.bl false)
theorem dor (ha : PE X a (lft X.K Z fa)) (hb : PE X (.BoolOp .Or (b :: rest) pos) (lft X.K Z fb)) : PE X (.BoolOp .Or (a :: b :: rest) pos) (lft X.K Z (dOr fa fb)) := PEimp (pe_or ha hb) fun σ H Q h => by
  obtain ⟨M, s, c, s', rl, hf, k⟩ := h
  unfold dOr at hf
  simp only [Option.bind_eq_some_iff] at hf
  obtain ⟨⟨c1, s1⟩, h1, h2⟩ := hf
  refine ⟨M, s, .bool c1, s1, rl, dTst_some h1, fun v H1 k1 r1 t1 => ⟨c1, t1.bool, ?_⟩⟩
  cases c1 with
  | false => exact ⟨M, s1, c, s', r1, h2, fun v2 H2 k2 r2 t2 => k v2 H2 (k1.trans k2) r2 t2⟩
  | true => cases h2; exact k _ H1 k1 r1 (.bl true)
theorem dnot (ha : PE X a (lft X.K Z fa)) : PE X (.UnaryOp .Not a pos) (lft X.K Z (dNot fa)) := PEimp (pe_not ha) fun σ H Q h => by
  obtain ⟨M, s, c, s', rl, hf, k⟩ := h
  unfold dNot at hf
  simp only [Option.map_eq_some_iff] at hf
  obtain ⟨⟨c1, s1⟩, h1, h2⟩ := hf
  cases h2
  exact ⟨M, s, .bool c1, s1, rl, dTst_some h1, fun v H1 k1 r1 t1 => ⟨c1, t1.bool, k _ H1 k1 r1 (.bl _)⟩⟩
def dIf (t : DT) (f g : DE) : DE := fun s => (t s).bind fun p => if p.1 = true then f p.2 else g p.2
theorem dif_ {c : Expr} (hc : PT X c (lfT X.K Z ta)) (ha : PE X a (lft X.K Z fa)) (hb : PE X b (lft X.K Z fb)) : PE X (.IfExp c a b pos) (lft X.K Z (dIf ta fa fb)) := PEimp (pe_ifExp hc ha hb) fun σ H Q h => by
  obtain ⟨M, s, d, s', rl, hf, k⟩ := h
  unfold dIf at hf
  simp only [Option.bind_eq_some_iff] at hf
  obtain ⟨⟨c1, s1⟩, h1, h2⟩ := hf
  refine ⟨M, s, c1, s1, rl, h1, fun H1 k1 r1 => ?_⟩
  cases c1 with
  | false => exact ⟨M, s1, d, s', r1, h2, fun v2 H2 k2 r2 t2 => k v2 H2 (k1.trans k2) r2 t2⟩
  | true => exact ⟨M, s1, d, s', r1, h2, fun v2 H2 k2 r2 t2 => k v2 H2 (k1.trans k2) r2 t2⟩
/-- a op b op' c -/
def dChain (g g' : PyData → PyData → Option PyData) (fa fb fc : DE) : DE := fun s => (fa s).bind fun p => (fb p.2).bind fun q => (g p.1 q.1).bind fun c => match c with
  | .bool true => (fc q.2).bind fun w => (g' q.1 w.1).map fun d => (d, w.2)
  | .bool false => some (.bool false, q.2)
  | _ => none
theorem lift_chain {r r' : R2} {g g' : PyData → PyData → Option PyData} (ok : OpOk X.K r g) (ok' : OpOk X.K r' g') {σ : L2.St} {H : Hp} {Q : VK} (h : lft X.K Z (dChain g g' fa fb fc) σ H Q) : tChain r r' (lft X.K Z fa) (lft X.K Z fb) (lft X.K Z fc) σ H Q := by
  obtain ⟨M, s, d, s', rl, hf, k⟩ := h
  unfold dChain at hf
  simp only [Option.bind_eq_some_iff] at hf
  obtain ⟨⟨d1, s1⟩, h1, ⟨d2, s2⟩, h2, c, h3, h4⟩ := hf
  refine ⟨M, s, d1, s1, rl, h1, fun x H1 k1 r1 t1 => ⟨M, s1, d2, s2, r1, h2, fun y H2 k2 r2 t2 => ?_⟩⟩
  refine ok (Mu Z M) H2 x y d1 d2 c _ r2.muT (t1.mono k2.kp) t2 h3 fun v H3 g3 t3 => ?_
  have k3 : Kq Z M H2 M H3 := kq_grow g3
  split at h4
  · refine ⟨true, t3.bool, ?_⟩
    simp only [Option.bind_eq_some_iff, Option.map_eq_some_iff] at h4
    obtain ⟨⟨d3, s3⟩, h5, d4, h6, h7⟩ := h4
    cases h7
    refine iteT ⟨M, s2, d3, _, r2.grow g3, h5, fun z H4 k4 r4 t4 => ?_⟩
    refine ok' (Mu Z M) H4 y z d2 d3 _ Q r4.muT (t2.mono (k3.trans k4).kp) t4 h6 fun v H5 g5 t5 => ?_
    exact k v H5 (k1.trans (k2.trans (k3.trans (k4.trans (kq_grow g5))))) (r4.grow g5) t5
  · refine ⟨false, t3.bool, iteF ?_⟩
    cases h4
    exact k _ H3 (k1.trans (k2.trans k3)) (r2.grow g3) (.bl false)
  · cases h4
theorem dchain {op op' : CmpOp} {r r' : R2} {c : Expr} {g g' : PyData → PyData → Option PyData} (ho : OpR X (compareOp op) r) (ok : OpOk X.K r g) (ho' : OpR X (compareOp op') r') (ok' : OpOk X.K r' g') (ha : PE X a (lft X.K Z fa)) (hb : PE X b (lft X.K Z fb)) (hc : PE X c (lft X.K Z fc))
    (hm : lastMarks [op, op'] [b, c] = false := by with_unfolding_all rfl) : PE X (.Compare a [op, op'] [b, c] pos) (lft X.K Z (dChain g g' fa fb fc)) := PEimp (pe_chain ho ho' ha hb hc hm) fun _ _ _ h => lift_chain ok ok' h
theorem dtchain {op op' : CmpOp} {r r' : R2} {c : Expr} {g g' : PyData → PyData → Option PyData} (ho : OpR X (compareOp op) r) (ok : OpOk X.K r g) (ho' : OpR X (compareOp op') r') (ok' : OpOk X.K r' g') (ha : PE X a (lft X.K Z fa)) (hb : PE X b (lft X.K Z fb)) (hc : PE X c (lft X.K Z fc))
    (hm : lastMarks [op, op'] [b, c] = false := by with_unfolding_all rfl) : PT X (.Compare a [op, op'] [b, c] pos) (lfT X.K Z (dTst (dChain g g' fa fb fc))) := PTimp (pt_chain ho ho' ha hb hc hm) fun σ H Q h => by
  obtain ⟨M, s, b, s', rl, hf, k⟩ := h
  exact lift_chain ok ok' ⟨M, s, .bool b, s', rl, dTst_some hf, fun v H' k1 r1 t1 => ⟨b, t1.bool, k H' k1 r1⟩⟩

/-! ### arguments, displays, built-ins -/
def aNil : DA := fun s => some ([], s)
def aCons (f : DE) (g : DA) : DA := fun s => (f s).bind fun p => (g p.2).map fun q => (p.1 :: q.1, q.2)
theorem aCons_some {f : DE} {g : DA} {s s' : Sl} {ds : List PyData} (h : aCons f g s = some (ds, s')) : ∃ d s1 r, f s = some (d, s1) ∧ g s1 = some (r, s') ∧ ds = d :: r := by
  unfold aCons at h
  simp only [Option.bind_eq_some_iff, Option.map_eq_some_iff] at h
  obtain ⟨⟨d1, s1⟩, h1, ⟨r, s2⟩, h2, h3⟩ := h
  cases h3
  exact ⟨d1, s1, r, h1, h2, rfl⟩
variable {ga gb : DA}
theorem danil : PA X [] (lfA X.K Z aNil) := PAimp pa_nil fun σ H Q h => by
  obtain ⟨M, s, d, s', rl, hf, k⟩ := h
  cases hf
  exact k [] H (Kq.refl _ _ _) rl .nil
theorem dac (ha : PE X e (lft X.K Z fa)) (hb : PA X es (lfA X.K Z ga)) (hs : starEach (e :: es) X.env = (false, eval e X.env) :: starEach es X.env := by rfl) : PA X (e :: es) (lfA X.K Z (aCons fa ga)) := PAimp (pa_cons ha hb hs) fun σ H Q h => by
  obtain ⟨M, s, d, s', rl, hf, k⟩ := h
  obtain ⟨d1, s1, r, h1, h2, rfl⟩ := aCons_some hf
  exact ⟨M, s, d1, s1, rl, h1, fun v H1 k1 r1 t1 => ⟨M, s1, r, s', r1, h2, fun vs H2 k2 r2 t2 => k _ H2 (k1.trans k2) r2 (.cons (t1.mono k2.kp) t2)⟩⟩
def dTup (g : DA) : DE := fun s => (g s).bind fun p => if p.1.length ≤ sizeLine then some (.tuple p.1, p.2) else none
def dLst (g : DA) : DE := fun s => (g s).bind fun p => if p.1.length ≤ sizeLine then some (.list p.1, p.2) else none
def dB (g : List PyData → Option PyData) (f : DA) : DE := fun s => (f s).bind fun p => (g p.1).map fun d => (d, p.2)
theorem dTup_some {g : DA} {s s' : Sl} {d : PyData} (h : dTup g s = some (d, s')) : ∃ ds, g s = some (ds, s') ∧ ds.length ≤ sizeLine ∧ d = .tuple ds := by
  unfold dTup at h
  simp only [Option.bind_eq_some_iff] at h
  obtain ⟨⟨d1, s1⟩, h1, h2⟩ := h
  dsimp only at h2
  split at h2
  · cases h2; exact ⟨d1, h1, by assumption, rfl⟩
  · cases h2
theorem dLst_some {g : DA} {s s' : Sl} {d : PyData} (h : dLst g s = some (d, s')) : ∃ ds, g s = some (ds, s') ∧ ds.length ≤ sizeLine ∧ d = .list ds := by
  unfold dLst at h
  simp only [Option.bind_eq_some_iff] at h
  obtain ⟨⟨d1, s1⟩, h1, h2⟩ := h
  dsimp only at h2
  split at h2
  · cases h2; exact ⟨d1, h1, by assumption, rfl⟩
  · cases h2
theorem grow_new {H : Hp} {p : Addr} {o : HO} (h : H p = none) : ∀ a u, H a = some u → (upd H p o) a = some u := fun a u e => by
  rw [upd_ne (ne_of_none e h)]; exact e
theorem nomu_new {H : Hp} {mu : Addr → Prop} {p : Addr} (hm : ∀ a, mu a → ∃ o, H a = some o) (h : H p = none) : ¬ mu p := fun q => by
  obtain ⟨o, e⟩ := hm p q
  rw [h] at e; cases e
theorem dt_newT {K : PySem.W.Frag} {H : Hp} {mu : Addr → Prop} {p : Addr} {xs : List V} {ds : List PyData} (hm : ∀ a, mu a → ∃ o, H a = some o) (h : H p = none) (t : DtAll K mu H xs ds) : Dt K mu (upd H p (.tup xs)) (.ref p) (.tuple ds) :=
  .tup upd_same (nomu_new hm h) (t.mono (kp_grow (grow_new h)))
theorem dt_newL {K : PySem.W.Frag} {H : Hp} {mu : Addr → Prop} {p : Addr} {xs : List V} {ds : List PyData} (hm : ∀ a, mu a → ∃ o, H a = some o) (h : H p = none) (t : DtAll K mu H xs ds) : Dt K mu (upd H p (.lst xs)) (.ref p) (.list ds) :=
  .lst (.inl upd_same) (nomu_new hm h) (t.mono (kp_grow (grow_new h)))
theorem dtup {x1} (h : PA X es (lfA X.K Z ga)) : PE X (.Tuple es x1 pos) (lft X.K Z (dTup ga)) := PEimp (pe_tup h) fun σ H Q h => by
  obtain ⟨M, s, d, s', rl, hf, k⟩ := h
  obtain ⟨ds, h1, hz, rfl⟩ := dTup_some hf
  refine ⟨M, s, ds, s', rl, h1, fun vs H1 k1 r1 t1 => ⟨by rw [t1.len]; exact hz, fun p hp => ?_⟩⟩
  exact k _ _ (k1.trans (kq_grow (grow_new hp))) (r1.grow (grow_new hp)) (dt_newT r1.muT hp t1)
theorem dlst (h : PA X es (lfA X.K Z ga)) : PE X (.List es pos) (lft X.K Z (dLst ga)) := PEimp (pe_lst h) fun σ H Q h => by
  obtain ⟨M, s, d, s', rl, hf, k⟩ := h
  obtain ⟨ds, h1, hz, rfl⟩ := dLst_some hf
  refine ⟨M, s, ds, s', rl, h1, fun vs H1 k1 r1 t1 => ⟨by rw [t1.len]; exact hz, fun p hp => ?_⟩⟩
  exact k _ _ (k1.trans (kq_grow (grow_new hp))) (r1.grow (grow_new hp)) (dt_newL r1.muT hp t1)
theorem ddct : PE X (.Dict [] [] pos) (lft X.K Z (dC (.dict []))) := PEimp pe_dnewK fun σ H Q h => by
  obtain ⟨M, s, d, s', rl, hf, k⟩ := h
  cases hf
  intro p hp
  exact k _ _ (kq_grow (grow_new hp)) (rl.grow (grow_new hp)) (.dct upd_same (nomu_new rl.muT hp) .nil)
theorem lift_cb {r : List V → Hp → VK → Prop} {g : List PyData → Option PyData} (ok : CallOk X.K r g) {σ : L2.St} {H : Hp} {Q : VK} (h : lft X.K Z (dB g ga) σ H Q) : tCB r (lfA X.K Z ga) σ H Q := by
  obtain ⟨M, s, d, s', rl, hf, k⟩ := h
  unfold dB at hf
  simp only [Option.bind_eq_some_iff, Option.map_eq_some_iff] at hf
  obtain ⟨⟨ds, s1⟩, h1, d', h2, h3⟩ := hf
  cases h3
  refine ⟨M, s, ds, _, rl, h1, fun vs H1 k1 r1 t1 => ?_⟩
  exact ok (Mu Z M) H1 vs ds _ Q r1.muT t1 h2 fun v H3 g3 t3 => k v H3 (k1.trans (kq_grow g3)) (r1.grow g3) t3
theorem dcb {x : Str} {p : Pos} {id : String} {r : List V → Hp → VK → Prop} {g : List PyData → Option PyData} (hc : CallR X (.builtin id) r) (ok : CallOk X.K r g) (hg : Gl X x) (hm : X.mg x = none) (hv : bootBuiltins x = some (.builtin id)) (ha : PA X (e :: es) (lfA X.K Z ga)) (hn : x ≠ "__name__" := by decide)
    (hdb : (x == ("__debug__" : Str)) = false := by decide) (he : starEach (e :: es) X.env = (false, eval e X.env) :: starEach es X.env := by rfl) (hpl : (backTo pos (starEach es X.env)).any (·.1) = false := by rfl) : PE X (.Call (.Name x p) (e :: es) [] pos) (lft X.K Z (dB g ga)) :=
  PEimp (pe_callB hc hg hm hv ha hn hdb he hpl) fun _ _ _ h => lift_cb ok h
theorem dcty {x : Str} {p : Pos} {T : String} {r : List V → Hp → VK → Prop} {g : List PyData → Option PyData} (hc : CallR X (.type T) r) (ok : CallOk X.K r g) (hg : Gl X x) (hm : X.mg x = none) (hv : bootBuiltins x = some (.type T)) (ha : PA X (e :: es) (lfA X.K Z ga)) (hn : x ≠ "__name__" := by decide)
    (hdb : (x == ("__debug__" : Str)) = false := by decide) (he : starEach (e :: es) X.env = (false, eval e X.env) :: starEach es X.env := by rfl) (hpl : (backTo pos (starEach es X.env)).any (·.1) = false := by rfl) : PE X (.Call (.Name x p) (e :: es) [] pos) (lft X.K Z (dB g ga)) :=
  PEimp (pe_callTy hc hg hm hv ha hn hdb he hpl) fun _ _ _ h => lift_cb ok h
end
end Dl

namespace Dl
open PySem PySem.Spec PyProof.Rows L2

/-! ### protecting one more address -/
def Par.add (Z : Par) (p : Addr) : Par := { Z with m0 := fun a => Z.m0 a ∨ a = p }
section
variable {K : PySem.W.Frag} {Z : Par} {M M' : List Addr} {σ : L2.St} {H H' : Hp} {s s' : Sl} {p : Addr}
theorem mu_add {a : Addr} : Mu (Z.add p) M a ↔ Mu Z M a ∨ a = p := by
  unfold Mu Par.add
  constructor
  · rintro ((h | h) | h | h)
    · exact .inl (.inl h)
    · exact .inr h
    · exact .inl (.inr (.inl h))
    · exact .inl (.inr (.inr h))
  · rintro ((h | h | h) | h)
    · exact .inl (.inl h)
    · exact .inr (.inl h)
    · exact .inr (.inr h)
    · exact .inl (.inr h)
theorem mu_cons {a : Addr} : Mu Z (p :: M) a ↔ Mu Z M a ∨ a = p := by
  unfold Mu
  simp only [List.mem_cons]
  constructor
  · rintro (h | h | h | h)
    · exact .inl (.inl h)
    · exact .inl (.inr (.inl h))
    · exact .inr h
    · exact .inl (.inr (.inr h))
  · rintro ((h | h | h) | h)
    · exact .inl h
    · exact .inr (.inl h)
    · exact .inr (.inr (.inr h))
    · exact .inr (.inr (.inl h))
/-- a new object is laid and protected -/
theorem Rel.addNew (r : Rel K Z M σ H s) (hp : H p = none) (o : HO) : Rel K (Z.add p) M σ (upd H p o) s := by
  have g := grow_new (o := o) hp
  have k : Kp (Mu Z M) H (Mu (Z.add p) M) (upd H p o) := fun a u e n => ⟨g a u e, fun q => (mu_add.mp q).elim n (ne_of_none e hp)⟩
  refine ⟨fun a u e n => g a u (r.base a u e n), fun a h => ?_, fun a h => ?_, fun a h => let ⟨u, e⟩ := r.pt a h; ⟨u, g a u e⟩, ?_⟩
  · obtain ⟨h1, h2, h3, u, e⟩ := r.fr a h
    exact ⟨h1, h2, fun q => q.elim h3 (ne_of_none e hp), u, g a u e⟩
  · rcases h with h | h
    · obtain ⟨u, e⟩ := r.mz a h
      exact ⟨u, g a u e⟩
    · rw [h]; exact ⟨o, upd_same⟩
  · exact r.sl.kp k (M := M) (fun a xs _ e => g _ _ e) (fun a xs _ e => g _ _ e) (fun _ h => h)
theorem kp_addNew (hp : H p = none) (o : HO) : Kp (Mu Z M) H (Mu (Z.add p) M) (upd H p o) := fun a u e n => ⟨grow_new hp a u e, fun q => (mu_add.mp q).elim n (ne_of_none e hp)⟩
theorem kp_drop : Kp (Mu (Z.add p) M) H (Mu Z M) H := fun a u e n => ⟨e, fun q => n (mu_add.mpr (.inl q))⟩
theorem Rel.unadd (r : Rel K (Z.add p) M σ H s) : Rel K Z M σ H s :=
  ⟨r.base, fun a h => let ⟨h1, h2, h3, h4⟩ := r.fr a h; ⟨h1, h2, fun q => h3 (.inl q), h4⟩, fun a h => r.mz a (.inl h), r.pt, r.sl.kp kp_drop (M := M) (fun _ _ _ e => e) (fun _ _ _ e => e) (fun _ h => h)⟩
/-- the protected object is written -/
theorem Rel.wrAdd (r : Rel K (Z.add p) M σ H s) (hpp : p ∉ Z.p) (o : HO) (h0 : Z.H0 p = none) : Rel K (Z.add p) M σ (upd H p o) s := by
  have mup : Mu (Z.add p) M p := .inl (.inr rfl)
  have k : Kp (Mu (Z.add p) M) H (Mu (Z.add p) M) (upd H p o) := fun a u e n => ⟨by
    have na : a ≠ p := fun z => n (by rw [z]; exact mup)
    rw [upd_ne na]; exact e, n⟩
  have ex : ∀ a u, H a = some u → ∃ w, (upd H p o) a = some w := fun a u e => by
    by_cases h : a = p
    · rw [h]; exact ⟨o, upd_same⟩
    · exact ⟨u, by rw [upd_ne h]; exact e⟩
  refine ⟨fun a u e n => ?_, fun a h => ?_, fun a h => let ⟨u, e⟩ := r.mz a h; ex a u e, fun a h => let ⟨u, e⟩ := r.pt a h; ex a u e, ?_⟩
  · have na : a ≠ p := ne_of_none e h0
    rw [upd_ne na]
    exact r.base a u e n
  · obtain ⟨h1, h2, h3, u, e⟩ := r.fr a h
    exact ⟨h1, h2, h3, ex a u e⟩
  · refine r.sl.kp k (M := M) (fun a xs hm e => ?_) (fun a xs hq e => ?_) (fun _ h => h)
    · have na : a ≠ p := fun z => (r.fr a hm).2.2.1 (.inr z)
      rw [upd_ne na]; exact e
    · have na : a ≠ p := fun z => hpp (z ▸ hq)
      rw [upd_ne na]; exact e
/-- a protected new list becomes a name's own -/
theorem SlAll.setOwn {mu : Addr → Prop} {q : List Addr} {a : Addr} {xs : List V} {ds : List PyData} (h1 : H a = some (.lst xs)) (h2 : DtAll K mu H xs ds) {σ : L2.St} {s : Sl} {M : List Addr} (t : SlAll K mu q H σ s M) :
    ∀ (i : Nat), i < s.length → a ∉ M → ∃ M', (∀ b ∈ M', b ∈ M ∨ b = a) ∧ SlAll K mu q H (σ.set i (some (.ref a))) (s.set i (.own ds)) M' := by
  induction t with
  | nil => intro i hi _; exact absurd hi (Nat.not_lt_zero _)
  | dat h t ih =>
    intro i hi n
    cases i with
    | zero => exact ⟨_, fun b hb => (List.mem_cons.mp hb).elim .inr .inl, .own h1 h2 n t⟩
    | succ i =>
      obtain ⟨M', a1, b1⟩ := ih i (by simpa using hi) n
      exact ⟨M', a1, .dat h b1⟩
  | no t ih =>
    intro i hi n
    cases i with
    | zero => exact ⟨_, fun b hb => (List.mem_cons.mp hb).elim .inr .inl, .own h1 h2 n t⟩
    | succ i =>
      obtain ⟨M', a1, b1⟩ := ih i (by simpa using hi) n
      exact ⟨M', a1, .no b1⟩
  | rf t ih =>
    intro i hi n
    cases i with
    | zero => exact ⟨_, fun b hb => (List.mem_cons.mp hb).elim .inr .inl, .own h1 h2 n t⟩
    | succ i =>
      obtain ⟨M', a1, b1⟩ := ih i (by simpa using hi) n
      exact ⟨M', a1, .rf b1⟩
  | pot e h d t ih =>
    intro i hi n
    cases i with
    | zero => exact ⟨_, fun b hb => (List.mem_cons.mp hb).elim .inr .inl, .own h1 h2 n t⟩
    | succ i =>
      obtain ⟨M', a1, b1⟩ := ih i (by simpa using hi) n
      exact ⟨M', a1, .pot e h d b1⟩
  | tab e h d f t ih =>
    intro i hi n
    cases i with
    | zero => exact ⟨_, fun b hb => (List.mem_cons.mp hb).elim .inr .inl, .own h1 h2 n t⟩
    | succ i =>
      obtain ⟨M', a1, b1⟩ := ih i (by simpa using hi) n
      exact ⟨M', a1, .tab e h d f b1⟩
  | @dic c ct σ s M h m t ih =>
    intro i hi n
    cases i with
    | zero => exact ⟨_, fun b hb => (List.mem_cons.mp hb).elim .inr fun z => .inl (List.mem_cons_of_mem _ z), .own h1 h2 (fun z => n (List.mem_cons_of_mem _ z)) t⟩
    | succ i =>
      obtain ⟨M', a1, b1⟩ := ih i (by simpa using hi) (fun z => n (List.mem_cons_of_mem _ z))
      refine ⟨c :: M', fun b hb => ?_, .dic h (fun z => (a1 _ z).elim m fun w => n (w ▸ List.mem_cons_self)) b1⟩
      rcases List.mem_cons.mp hb with z | z
      · exact .inl (z ▸ List.mem_cons_self)
      · exact (a1 b z).elim (fun w => .inl (List.mem_cons_of_mem _ w)) .inr
  | @own c ys es σ s M h d m t ih =>
    intro i hi n
    cases i with
    | zero => exact ⟨_, fun b hb => (List.mem_cons.mp hb).elim .inr fun z => .inl (List.mem_cons_of_mem _ z), .own h1 h2 (fun z => n (List.mem_cons_of_mem _ z)) t⟩
    | succ i =>
      obtain ⟨M', a1, b1⟩ := ih i (by simpa using hi) (fun z => n (List.mem_cons_of_mem _ z))
      refine ⟨c :: M', fun b hb => ?_, .own h d (fun z => (a1 _ z).elim m fun w => n (w ▸ List.mem_cons_self)) b1⟩
      rcases List.mem_cons.mp hb with z | z
      · exact .inl (z ▸ List.mem_cons_self)
      · exact (a1 b z).elim (fun w => .inl (List.mem_cons_of_mem _ w)) .inr
theorem kp_addCons : Kp (Mu (Z.add p) M) H (Mu Z (p :: M)) H := fun a u e n => ⟨e, fun q => n (mu_add.mpr (mu_cons.mp q))⟩
theorem Rel.own (r : Rel K (Z.add p) M σ H s) (h0 : Z.H0 p = none) (hpp : p ∉ Z.p) (hm : ¬ Z.m0 p) {xs : List V} {ds : List PyData} (h1 : H p = some (.lst xs)) (h2 : DtAll K (Mu (Z.add p) M) H xs ds) (i : Nat) (hi : i < s.length) :
    ∃ M', Rel K Z M' (σ.set i (some (.ref p))) H (s.set i (.own ds)) ∧ ∀ c ∈ M', c ∈ M ∨ c = p := by
  have n : p ∉ M := fun z => (r.fr p z).2.2.1 (.inr rfl)
  obtain ⟨M', a, b⟩ := r.sl.setOwn h1 h2 i hi n
  have k : Kp (Mu (Z.add p) M) H (Mu Z M') H := fun c u e nn => ⟨e, fun q => nn (mu_add.mpr (by
    rcases q with q | q | q
    · exact .inl (.inl q)
    · exact .inl (.inr (.inl q))
    · exact (a c q).elim (fun w => .inl (.inr (.inr w))) .inr))⟩
  refine ⟨M', ⟨r.base, fun c hc => ?_, fun a h => r.mz a (.inl h), r.pt, b.kp k (M := M') (fun _ _ _ e => e) (fun _ _ _ e => e) (fun _ h => h)⟩, a⟩
  rcases a c hc with h | h
  · obtain ⟨h1, h2, h3, h4⟩ := r.fr c h
    exact ⟨h1, h2, fun q => h3 (.inl q), h4⟩
  · subst h
    exact ⟨h0, hpp, hm, _, h1⟩
end

/-! ### new lists -/
abbrev DF := Sl → Option (List PyData × Sl)
def lfF (K : PySem.W.Frag) (Z : Par) (f : DF) : TE := fun σ H Q => ∃ M s ds s', Rel K Z M σ H s ∧ f s = some (ds, s') ∧
  ∀ p xs H', H p = none → H' p = some (.lst xs) → Kq Z M H M H' → Rel K (Z.add p) M σ H' s' → DtAll K (Mu (Z.add p) M) H' xs ds → Q (.ref p) H'
def dL (f : DF) : DE := fun s => (f s).map fun p => (.list p.1, p.2)
def fLst (g : DA) : DF := fun s => (g s).bind fun p => if p.1.length ≤ sizeLine then some p else none
section
variable {X : Cx} {Z : Par} {a b e : Expr} {es : List Expr} {pos : Pos} {fa fb fc : DE} {ff : DF} {ga : DA}
theorem kp_free {mu mu' : Addr → Prop} {H H' : Hp} (hm : ∀ a, mu a → ∃ o, H a = some o) {p : Addr} (h : Kp mu H mu' H') : True := trivial
theorem dfr (h : PE X e (lfF X.K Z ff)) : PE X e (lft X.K Z (dL ff)) := PEimp h fun σ H Q h => by
  obtain ⟨M, s, d, s', rl, hf, k⟩ := h
  unfold dL at hf
  simp only [Option.map_eq_some_iff] at hf
  obtain ⟨⟨ds, s1⟩, h1, h2⟩ := hf
  cases h2
  refine ⟨M, s, ds, _, rl, h1, fun p xs H' hp hx k1 r1 t1 => k _ H' k1 r1.unadd (.lst (.inl hx) (fun q => ?_) (t1.mono kp_drop))⟩
  obtain ⟨o, e⟩ := rl.muT p q
  rw [hp] at e; cases e
theorem flst (h : PA X es (lfA X.K Z ga)) : PE X (.List es pos) (lfF X.K Z (fLst ga)) := PEimp (pe_lst h) fun σ H Q h => by
  obtain ⟨M, s, ds, s', rl, hf, k⟩ := h
  unfold fLst at hf
  simp only [Option.bind_eq_some_iff] at hf
  obtain ⟨⟨d1, s1⟩, h1, h2⟩ := hf
  dsimp only at h2
  split at h2
  · cases h2
    rename_i hz
    refine ⟨M, s, ds, _, rl, h1, fun vs H1 k1 r1 t1 => ⟨by rw [t1.len]; exact hz, fun p hp => ?_⟩⟩
    have hp0 : H p = none := by
      cases q : H p with
      | none => rfl
      | some o =>
        by_cases m : Mu Z M p
        · obtain ⟨u, e⟩ := r1.muT p m
          rw [hp] at e; cases e
        · have := (k1.kp p o q m).1
          rw [hp] at this; cases this
    exact k p vs _ hp0 upd_same (k1.trans (kq_grow (grow_new hp))) (r1.addNew hp _) (t1.mono (kp_addNew hp _))
  · cases h2
end

/-! ### statements -/
def sNil : DS := fun s => some (.nx s)
def sSeq (f g : DS) : DS := fun s => (f s).bind fun fl => match fl with
  | .nx s' => g s'
  | fl => some fl
def sSet (i : Nat) (f : DE) : DS := fun s => (f s).map fun p => .nx (p.2.set i (.dat p.1))
def sOwn (i : Nat) (f : DF) : DS := fun s => (f s).bind fun p => if i < p.2.length then some (.nx (p.2.set i (.own p.1))) else none
def sRet (f : DE) : DS := fun s => (f s).map fun p => .rt p.1 p.2
def sRetN : DS := fun s => some (.rt .none s)
def sIf (t : DT) (f g : DS) : DS := fun s => (t s).bind fun p => if p.1 = true then f p.2 else g p.2
def sDrop (f : DE) : DS := fun s => (f s).map fun p => .nx p.2
def sCont : DS := fun s => some (.ct s)
def sBrk : DS := fun s => some (.bk s)
/-- a name's own list is data from here on -/
def sFrz (i : Nat) : DS := fun s => match s[i]? with
  | some (.own ds) => some (.nx (s.set i (.dat (.list ds))))
  | _ => none
section
variable {X : Cx} {Z : Par} {a b e : Expr} {es : List Expr} {pos : Pos} {fa fb fc : DE} {ff : DF} {ga : DA} {st : Stmt} {sts : List Stmt} {f g : DS} {t : DT}
theorem FlOk.mono {K : PySem.W.Frag} {m0 m1 : List Addr} {H0 H1 : Hp} {D : Ends} (k : Kq Z m0 H0 m1 H1) : ∀ {fl : Fl}, FlOk K Z m0 H0 D fl → FlOk K Z m1 H1 D fl
  | .nx _, h => fun M σ H k1 r => h M σ H (k.trans k1) r
  | .rt _ _, h => fun M σ H v k1 r => h M σ H v (k.trans k1) r
  | .bk _, h => fun M σ H k1 r => h M σ H (k.trans k1) r
  | .ct _, h => fun M σ H k1 r => h M σ H (k.trans k1) r
theorem snil : PSs X [] (lfS X.K Z sNil) := PSsimp pss_nil fun D σ H h => by
  obtain ⟨M, s, fl, rl, hf, k⟩ := h
  cases hf
  exact k M σ H (Kq.refl _ _ _) rl
theorem lift_seq {K : PySem.W.Frag} {D : Ends} {σ : L2.St} {H : Hp} (h : lfS K Z (sSeq f g) D σ H) : tSeq (lfS K Z f) (lfS K Z g) D σ H := by
  obtain ⟨M, s, fl, rl, hf, k⟩ := h
  unfold sSeq at hf
  simp only [Option.bind_eq_some_iff] at hf
  obtain ⟨fl1, h1, h2⟩ := hf
  refine ⟨M, s, fl1, rl, h1, ?_⟩
  cases fl1 with
  | nx s1 => exact fun M1 σ1 H1 k1 r1 => ⟨M1, s1, fl, r1, h2, k.mono k1⟩
  | rt d s1 => cases h2; exact k
  | bk s1 => cases h2; exact k
  | ct s1 => cases h2; exact k
theorem scons (h1 : PS X st (lfS X.K Z f)) (h2 : PSs X sts (lfS X.K Z g)) : PSs X (st :: sts) (lfS X.K Z (sSeq f g)) := PSsimp (pss_cons h1 h2) fun _ _ _ h => lift_seq h
theorem sone (h1 : PS X st (lfS X.K Z f)) : PSs X [st] (lfS X.K Z f) := pss_one h1
theorem sset {i : Nat} {x : Str} {pos' : Pos} (hN : X.N.Nodup) (hi : X.N[i]? = some x) (hx : Loc X.env.scope x) (he : PE X e (lft X.K Z fa)) (hs : swapsWith e (some (.Name x pos')) pos.line X.env = pure false := by rfl)
    (hf : X.fn x = true ∨ X.env.scope.names.lookup x = some .local := by first | exact .inl rfl | exact .inr rfl | assumption) : PS X (.Assign [.Name x pos'] e pos) (lfS X.K Z (sSet i fa)) := PSimp (ps_set hN hi hx he hs hf) fun D σ H h => by
  obtain ⟨M, s, fl, rl, h1, k⟩ := h
  unfold sSet at h1
  simp only [Option.map_eq_some_iff] at h1
  obtain ⟨⟨d, s1⟩, h1, h2⟩ := h1
  cases h2
  refine ⟨M, s, d, s1, rl, h1, fun v H1 k1 r1 t1 => ?_⟩
  obtain ⟨M', _, r2, k2⟩ := r1.setDat t1 i
  exact k M' _ H1 (k1.trans k2) r2
theorem sown {i : Nat} {x : Str} {pos' : Pos} (hN : X.N.Nodup) (hi : X.N[i]? = some x) (hx : Loc X.env.scope x) (he : PE X e (lfF X.K Z ff)) (hs : swapsWith e (some (.Name x pos')) pos.line X.env = pure false := by rfl)
    (hf : X.fn x = true ∨ X.env.scope.names.lookup x = some .local := by first | exact .inl rfl | exact .inr rfl | assumption) : PS X (.Assign [.Name x pos'] e pos) (lfS X.K Z (sOwn i ff)) := PSimp (ps_set hN hi hx he hs hf) fun D σ H h => by
  obtain ⟨M, s, fl, rl, h1, k⟩ := h
  unfold sOwn at h1
  simp only [Option.bind_eq_some_iff] at h1
  obtain ⟨⟨ds, s1⟩, h1, h2⟩ := h1
  dsimp only at h2
  split at h2
  · cases h2
    rename_i hlt
    refine ⟨M, s, ds, s1, rl, h1, fun p xs H1 hp hx k1 r1 t1 => ?_⟩
    have npp : p ∉ Z.p := fun z => by
      obtain ⟨o, e⟩ := rl.pt p z
      rw [hp] at e; cases e
    have n0 : Z.H0 p = none := by
      cases q : Z.H0 p with
      | none => rfl
      | some o =>
        have := rl.base p o q npp
        rw [hp] at this; cases this
    have nm : ¬ Z.m0 p := fun z => by
      obtain ⟨o, e⟩ := rl.mz p z
      rw [hp] at e; cases e
    obtain ⟨M', r2, k2⟩ := r1.own n0 npp nm hx t1 i hlt
    exact k M' _ H1 (fun c u e n1 n2 => ⟨(k1 c u e n1 n2).1, fun z => (k2 c z).elim n2 (ne_of_none e hp)⟩) r2
  · cases h2
theorem sret (he : PE X e (lft X.K Z fa)) : PS X (.Return (some e) pos) (lfS X.K Z (sRet fa)) := PSimp (ps_ret he) fun D σ H h => by
  obtain ⟨M, s, fl, rl, h1, k⟩ := h
  unfold sRet at h1
  simp only [Option.map_eq_some_iff] at h1
  obtain ⟨⟨d, s1⟩, h1, h2⟩ := h1
  cases h2
  exact ⟨M, s, d, s1, rl, h1, fun v H1 k1 r1 t1 => k M σ H1 v k1 r1 t1⟩
theorem sretN : PS X (.Return none pos) (lfS X.K Z sRetN) := PSimp ps_retN fun D σ H h => by
  obtain ⟨M, s, fl, rl, h1, k⟩ := h
  cases h1
  exact k M σ H _ (Kq.refl _ _ _) rl .non
theorem sif {c : Expr} {xs ys : List Stmt} (hc : PT X c (lfT X.K Z t)) (ha : PSs X xs (lfS X.K Z f)) (hb : PSs X ys (lfS X.K Z g)) : PS X (.If c xs ys pos) (lfS X.K Z (sIf t f g)) := PSimp (ps_if hc ha hb) fun D σ H h => by
  obtain ⟨M, s, fl, rl, h1, k⟩ := h
  unfold sIf at h1
  simp only [Option.bind_eq_some_iff] at h1
  obtain ⟨⟨c1, s1⟩, h1, h2⟩ := h1
  refine ⟨M, s, c1, s1, rl, h1, fun H1 k1 r1 => ?_⟩
  cases c1 with
  | true => exact ⟨M, s1, fl, r1, h2, k.mono k1⟩
  | false => exact ⟨M, s1, fl, r1, h2, k.mono k1⟩
theorem sdrop (he : PE X e (lft X.K Z fa)) (hs : swapsWith e none pos.line X.env = pure false := by rfl) : PS X (.Expr e pos) (lfS X.K Z (sDrop fa)) := PSimp (ps_expr he hs) fun D σ H h => by
  obtain ⟨M, s, fl, rl, h1, k⟩ := h
  unfold sDrop at h1
  simp only [Option.map_eq_some_iff] at h1
  obtain ⟨⟨d, s1⟩, h1, h2⟩ := h1
  cases h2
  exact ⟨M, s, d, s1, rl, h1, fun v H1 k1 r1 t1 => k M σ H1 k1 r1⟩
theorem scont : PS X (.Continue pos) (lfS X.K Z sCont) := PSimp ps_continue fun D σ H h => by
  obtain ⟨M, s, fl, rl, h1, k⟩ := h
  cases h1
  exact k M σ H (Kq.refl _ _ _) rl
theorem sbrk : PS X (.Break pos) (lfS X.K Z sBrk) := PSimp ps_break fun D σ H h => by
  obtain ⟨M, s, fl, rl, h1, k⟩ := h
  cases h1
  exact k M σ H (Kq.refl _ _ _) rl
/-- .. freezing -/
theorem SlAll.frz {K : PySem.W.Frag} {mu : Addr → Prop} {q : List Addr} {H : Hp} {ds : List PyData} : ∀ {σ : L2.St} {s : Sl} {M : List Addr} (i : Nat), SlAll K mu q H σ s M → s[i]? = some (.own ds) →
    ∃ a xs M', σ[i]? = some (some (.ref a)) ∧ H a = some (.lst xs) ∧ DtAll K mu H xs ds ∧ a ∈ M ∧ a ∉ M' ∧ (∀ b ∈ M', b ∈ M) ∧ (∀ mu', (∀ b, mu' b → mu b) → ¬ mu' a → SlAll K mu' q H σ (s.set i (.dat (.list ds))) M')
  | _, _, _, _, .nil, e => by simp at e
  | _, _, _, 0, .dat h t, e => by simp at e
  | _, _, _, 0, .no t, e => by simp at e
  | _, _, _, 0, .rf t, e => by simp at e
  | _, _, _, 0, .pot .., e => by simp at e
  | _, _, _, 0, .own (a := a) (xs := xs) h d n t, e => by
    simp at e
    subst e
    refine ⟨a, xs, _, rfl, h, d, List.mem_cons_self, n, fun b hb => List.mem_cons_of_mem _ hb, fun mu' hs hn => ?_⟩
    have k : Kp mu H mu' H := fun c u e nn => ⟨e, fun z => nn (hs c z)⟩
    exact .dat (.lst (.inl h) hn (d.mono k)) (t.kp k (fun _ _ _ e => e) (fun _ _ _ e => e) (fun _ h => h))
  | _, _, _, i + 1, .dat h t, e => by
    obtain ⟨a, xs, M', h1, h2, h3, h4, h5, h6, h7⟩ := SlAll.frz i t (by simpa using e)
    exact ⟨a, xs, M', by simpa using h1, h2, h3, h4, h5, h6, fun mu' hs hn => .dat (h.mono fun c u e nn => ⟨e, fun z => nn (hs c z)⟩) (h7 mu' hs hn)⟩
  | _, _, _, i + 1, .no t, e => by
    obtain ⟨a, xs, M', h1, h2, h3, h4, h5, h6, h7⟩ := SlAll.frz i t (by simpa using e)
    exact ⟨a, xs, M', by simpa using h1, h2, h3, h4, h5, h6, fun mu' hs hn => .no (h7 mu' hs hn)⟩
  | _, _, _, i + 1, .rf t, e => by
    obtain ⟨a, xs, M', h1, h2, h3, h4, h5, h6, h7⟩ := SlAll.frz i t (by simpa using e)
    exact ⟨a, xs, M', by simpa using h1, h2, h3, h4, h5, h6, fun mu' hs hn => .rf (h7 mu' hs hn)⟩
  | _, _, _, i + 1, .own (a := c) h d n t, e => by
    obtain ⟨a, xs, M', h1, h2, h3, h4, h5, h6, h7⟩ := SlAll.frz i t (by simpa using e)
    refine ⟨a, xs, c :: M', by simpa using h1, h2, h3, List.mem_cons_of_mem _ h4, fun z => (List.mem_cons.mp z).elim (fun w => n (w ▸ h4)) h5, fun b hb => (List.mem_cons.mp hb).elim (fun w => w ▸ List.mem_cons_self) fun w => List.mem_cons_of_mem _ (h6 b w), fun mu' hs hn => ?_⟩
    exact .own h (d.mono fun c u e nn => ⟨e, fun z => nn (hs c z)⟩) (fun z => n (h6 c z)) (h7 mu' hs hn)
  | _, _, _, i + 1, .pot e1 h d t, e => by
    obtain ⟨a, xs, M', h1, h2, h3, h4, h5, h6, h7⟩ := SlAll.frz i t (by simpa using e)
    exact ⟨a, xs, M', by simpa using h1, h2, h3, h4, h5, h6, fun mu' hs hn => .pot e1 h (d.mono fun c u e nn => ⟨e, fun z => nn (hs c z)⟩) (h7 mu' hs hn)⟩
  | _, _, _, 0, .tab .., e => by simp at e
  | _, _, _, i + 1, .tab e1 h d f t, e => by
    obtain ⟨a, xs, M', h1, h2, h3, h4, h5, h6, h7⟩ := SlAll.frz i t (by simpa using e)
    exact ⟨a, xs, M', by simpa using h1, h2, h3, h4, h5, h6, fun mu' hs hn => .tab e1 h d (fun pos cv z => let ⟨c, g1, g2, g3⟩ := f pos cv z; ⟨c, g1, g2, fun w => g3 (hs c w)⟩) (h7 mu' hs hn)⟩
  | _, _, _, 0, .dic .., e => by simp at e
  | _, _, _, i + 1, .dic (a := c) h n t, e => by
    obtain ⟨a, xs, M', h1, h2, h3, h4, h5, h6, h7⟩ := SlAll.frz i t (by simpa using e)
    refine ⟨a, xs, c :: M', by simpa using h1, h2, h3, List.mem_cons_of_mem _ h4, fun z => (List.mem_cons.mp z).elim (fun w => n (w ▸ h4)) h5, fun b hb => (List.mem_cons.mp hb).elim (fun w => w ▸ List.mem_cons_self) fun w => List.mem_cons_of_mem _ (h6 b w), fun mu' hs hn => ?_⟩
    exact .dic (h.mono (fun c u e nn => ⟨e, fun z => nn (hs c z)⟩) fun _ e => e) (fun z => n (h6 c z)) (h7 mu' hs hn)
theorem sfrz {i : Nat} (h : PSs X sts (lfS X.K Z g)) : PSs X sts (lfS X.K Z (sSeq (sFrz i) g)) := PSsimp h fun D σ H h => by
  obtain ⟨M, s, fl, rl, h1, k⟩ := h
  unfold sSeq sFrz at h1
  simp only [Option.bind_eq_some_iff] at h1
  obtain ⟨fl1, h1, h2⟩ := h1
  split at h1
  · rename_i ds hs
    cases h1
    obtain ⟨a, xs, M', g1, g2, g3, g4, g5, g6, g7⟩ := rl.sl.frz i hs
    have sub : ∀ b, Mu Z M' b → Mu Z M b := fun b hb => by
      rcases hb with hb | hb | hb
      · exact .inl hb
      · exact .inr (.inl hb)
      · exact .inr (.inr (g6 b hb))
    have na : ¬ Mu Z M' a := fun hb => by
      rcases hb with hb | hb | hb
      · exact (rl.fr a g4).2.2.1 hb
      · exact (rl.fr a g4).2.1 hb
      · exact g5 hb
    have kk : Kq Z M H M' H := fun c u e _ nn => ⟨e, fun z => nn (g6 c z)⟩
    exact ⟨M', _, fl, ⟨rl.base, fun b hb => rl.fr b (g6 b hb), rl.mz, rl.pt, g7 _ sub na⟩, h2, k.mono kk⟩
  · cases h1
end
end Dl

namespace Dl
open PySem PySem.Spec PyProof.Rows L2

/-! ### lists that may be changed -/
def contents (s : Sl) (i : Nat) : Option (List PyData) := match s[i]? with
  | some (.own ds) => some ds
  | some (.pot _ ds) => some ds
  | _ => none
def potUp (k : Nat) (ds : List PyData) : SV → SV
  | .pot i es => if i = k then .pot i ds else .pot i es
  | x => x
def setC (s : Sl) (i : Nat) (ds : List PyData) : Sl := match s[i]? with
  | some (.own _) => s.set i (.own ds)
  | some (.pot k _) => s.map (potUp k ds)
  | _ => s
section
variable {K : PySem.W.Frag} {Z : Par} {M M' : List Addr} {σ : L2.St} {H H' : Hp} {s s' : Sl} {p : Addr} {mu : Addr → Prop} {q : List Addr}
theorem SlAll.wrOwn {ds' : List PyData} {xs' : List V} {a : Addr} (hk : Kp mu H mu H') (hs : ∀ b o, H b = some o → b ≠ a → H' b = some o) (h1 : H' a = some (.lst xs')) (h2 : DtAll K mu H' xs' ds') (hq : a ∉ q) {M : List Addr} (t : SlAll K mu q H σ s M) :
    ∀ (i : Nat) (ds : List PyData), s[i]? = some (.own ds) → σ[i]? = some (some (.ref a)) → SlAll K mu q H' σ (s.set i (.own ds')) M := by
  have rest : ∀ {σ : L2.St} {s : Sl} {M : List Addr}, a ∉ M → SlAll K mu q H σ s M → SlAll K mu q H' σ s M := fun {σ s M} n t =>
    t.kp hk (M := M) (fun b xs hb e => hs b _ e (fun z => n (z ▸ hb))) (fun b xs hb e => hs b _ e (fun z => hq (z ▸ hb))) (fun _ h => h)
  induction t with
  | nil => intro i ds e; simp at e
  | dat h t ih =>
    intro i ds e f
    cases i with
    | zero => simp at e
    | succ i => exact .dat (h.mono hk) (ih i ds (by simpa using e) (by simpa using f))
  | no t ih =>
    intro i ds e f
    cases i with
    | zero => simp at e
    | succ i => exact .no (ih i ds (by simpa using e) (by simpa using f))
  | rf t ih =>
    intro i ds e f
    cases i with
    | zero => simp at e
    | succ i => exact .rf (ih i ds (by simpa using e) (by simpa using f))
  | pot e0 h d t ih =>
    intro i ds e f
    cases i with
    | zero => simp at e
    | succ i => exact .pot e0 (hs _ _ h (fun z => hq (z ▸ List.mem_of_getElem? e0))) (d.mono hk) (ih i ds (by simpa using e) (by simpa using f))
  | tab e0 h d w t ih =>
    intro i ds e f
    cases i with
    | zero => simp at e
    | succ i => exact .tab e0 (hs _ _ h (fun z => hq (z ▸ List.mem_of_getElem? e0))) d (fun pos cv z => let ⟨c, g1, g2, g3⟩ := w pos cv z; ⟨c, g1, (hk _ _ g2 g3).1, (hk _ _ g2 g3).2⟩) (ih i ds (by simpa using e) (by simpa using f))
  | @dic c ct σ s M h m t ih =>
    intro i ds e f
    cases i with
    | zero => simp at e
    | succ i =>
      have nc : c ≠ a := fun z => by
        subst z
        obtain ⟨b, xs, g1, g2, _⟩ := t.getOwn (i := i) (by simpa using e)
        have : σ[i]? = some (some (.ref c)) := by simpa using f
        rw [this] at g1
        simp only [Option.some.injEq, V.ref.injEq] at g1
        exact m (g1 ▸ g2)
      exact .dic (h.mono hk fun o e => hs _ _ e nc) m (ih i ds (by simpa using e) (by simpa using f))
  | @own c ys es σ s M h d m t ih =>
    intro i ds e f
    cases i with
    | zero =>
      simp at f
      subst f
      exact .own h1 h2 m (rest m t)
    | succ i =>
      have nc : c ≠ a := fun z => by
        subst z
        obtain ⟨b, xs, g1, g2, _⟩ := t.getOwn (i := i) (by simpa using e)
        have : σ[i]? = some (some (.ref c)) := by simpa using f
        rw [this] at g1
        simp only [Option.some.injEq, V.ref.injEq] at g1
        exact m (g1 ▸ g2)
      exact .own (hs _ _ h nc) (d.mono hk) m (ih i ds (by simpa using e) (by simpa using f))
theorem SlAll.wrPot {k : Nat} {ds' : List PyData} {xs' : List V} {a : Addr} (hk : Kp mu H mu H') (hs : ∀ b o, H b = some o → b ≠ a → H' b = some o) (h1 : H' a = some (.lst xs')) (h2 : DtAll K mu H' xs' ds') (nd : q.Nodup) (hq : q[k]? = some a) (hl : ∃ xs, H a = some (.lst xs)) {M : List Addr} (t : SlAll K mu q H σ s M) (n : a ∉ M) :
    SlAll K mu q H' σ (s.map (potUp k ds')) M := by
  induction t with
  | nil => exact .nil
  | dat h t ih => exact .dat (h.mono hk) (ih n)
  | no t ih => exact .no (ih n)
  | rf t ih => exact .rf (ih n)
  | @pot i c ys es σ s M e0 h d t ih =>
    have eq : potUp k ds' (.pot i es) = if i = k then .pot i ds' else .pot i es := rfl
    rw [List.map_cons, eq]
    by_cases e : i = k
    · rw [if_pos e]
      subst e
      rw [hq] at e0
      cases e0
      exact .pot hq h1 h2 (ih n)
    · rw [if_neg e]
      refine .pot e0 (hs _ _ h fun z => e ?_) (d.mono hk) (ih n)
      subst z
      have l1 : i < q.length := (List.getElem?_eq_some_iff.mp e0).1
      exact (List.getElem?_inj l1 nd).mp (e0.trans hq.symm)
  | tab e0 h d w t ih =>
    refine .tab e0 (hs _ _ h fun z => ?_) d (fun pos cv z => let ⟨c, g1, g2, g3⟩ := w pos cv z; ⟨c, g1, (hk _ _ g2 g3).1, (hk _ _ g2 g3).2⟩) (ih n)
    subst z
    obtain ⟨xs, hl⟩ := hl
    rw [hl] at h
    cases h
  | own h d m t ih => exact .own (hs _ _ h (fun z => n (z ▸ List.mem_cons_self))) (d.mono hk) m (ih (fun z => n (List.mem_cons_of_mem _ z)))
  | dic h m t ih => exact .dic (h.mono hk fun o e => hs _ _ e (fun z => n (z ▸ List.mem_cons_self))) m (ih (fun z => n (List.mem_cons_of_mem _ z)))
theorem Rel.at (r : Rel K Z M σ H s) {i : Nat} {ds : List PyData} (h : contents s i = some ds) : ∃ a xs, σ[i]? = some (some (.ref a)) ∧ H a = some (.lst xs) ∧ DtAll K (Mu Z M) H xs ds ∧ Mu Z M a ∧
    ∀ H' xs' ds', H' a = some (.lst xs') → (∀ b o, H b = some o → b ≠ a → H' b = some o) → DtAll K (Mu Z M) H' xs' ds' → Rel K Z M σ H' (setC s i ds') ∧ Kq Z M H M H' := by
  unfold contents at h
  split at h
  · rename_i es hs
    cases h
    obtain ⟨a, xs, h1, h2, h3, h4⟩ := r.sl.getOwn hs
    have hmu : Mu Z M a := .inr (.inr h2)
    refine ⟨a, xs, h1, h3, h4, hmu, fun H' xs' ds' e1 e2 e3 => ?_⟩
    have k : Kp (Mu Z M) H (Mu Z M) H' := fun b o e n => ⟨e2 b o e (fun z => n (z ▸ hmu)), n⟩
    have ex : ∀ b o, H b = some o → ∃ u, H' b = some u := fun b o e => by
      by_cases z : b = a
      · rw [z]; exact ⟨_, e1⟩
      · exact ⟨o, e2 b o e z⟩
    refine ⟨⟨fun b o e n => e2 b o (r.base b o e n) (fun z => ?_), fun b hb => let ⟨f1, f2, f3, u, f4⟩ := r.fr b hb; ⟨f1, f2, f3, ex b u f4⟩, fun b hb => let ⟨u, f⟩ := r.mz b hb; ex b u f, fun b hb => let ⟨u, f⟩ := r.pt b hb; ex b u f, ?_⟩, fun b o e _ n => ⟨e2 b o e (fun z => n (z ▸ h2)), n⟩⟩
    · rw [z, (r.fr a h2).1] at e; cases e
    · unfold setC
      rw [hs]
      exact r.sl.wrOwn k e2 e1 e3 (r.fr a h2).2.1 i ds hs h1
  · rename_i kk es hs
    cases h
    obtain ⟨a, xs, h1, h2, h3, h4⟩ := r.sl.getPot hs
    have h2m := List.mem_of_getElem? h2
    have hmu : Mu Z M a := .inr (.inl h2m)
    refine ⟨a, xs, h1, h3, h4, hmu, fun H' xs' ds' e1 e2 e3 => ?_⟩
    have k : Kp (Mu Z M) H (Mu Z M) H' := fun b o e n => ⟨e2 b o e (fun z => n (z ▸ hmu)), n⟩
    have ex : ∀ b o, H b = some o → ∃ u, H' b = some u := fun b o e => by
      by_cases z : b = a
      · rw [z]; exact ⟨_, e1⟩
      · exact ⟨o, e2 b o e z⟩
    refine ⟨⟨fun b o e n => e2 b o (r.base b o e n) (fun z => n (z ▸ h2m)), fun b hb => let ⟨f1, f2, f3, u, f4⟩ := r.fr b hb; ⟨f1, f2, f3, ex b u f4⟩, fun b hb => let ⟨u, f⟩ := r.mz b hb; ex b u f, fun b hb => let ⟨u, f⟩ := r.pt b hb; ex b u f, ?_⟩, fun b o e n m => ⟨e2 b o e (fun z => n (z ▸ h2m)), m⟩⟩
    unfold setC
    rw [hs]
    exact r.sl.wrPot k e2 e1 e3 Z.nd h2 ⟨xs, h3⟩ (fun z => (r.fr a z).2.1 h2m)
  · cases h
end

/-- x[e], x a list that may be changed -/
def dIxC (i : Nat) (f : DE) : DE := fun s => (contents s i).bind fun _ => (f s).bind fun p => (contents p.2 i).bind fun ds => match p.1 with
  | .int k => (atI ds k).map fun d => (d, p.2)
  | _ => none
theorem atI_dt {K : PySem.W.Frag} {mu : Addr → Prop} {H : Hp} {xs : List V} {ds : List PyData} {k : Int} {d : PyData} (t : DtAll K mu H xs ds) (h : atI ds k = some d) : ∃ v, atI xs k = some v ∧ Dt K mu H v d := by
  unfold atI at h ⊢
  rw [t.len]
  simp only [Option.bind_eq_some_iff] at h ⊢
  obtain ⟨j, h1, h2⟩ := h
  obtain ⟨v, h3, h4⟩ := t.get h2
  exact ⟨v, ⟨j, h1, h3⟩, h4⟩
/-- texts, numbers, truths, None -/
def scalD : PyData → Bool
  | .none => true
  | .bool _ => true
  | .int _ => true
  | .str _ => true
  | _ => false
/-- e in x -/
def dInC (neg : Bool) (f : DE) (i : Nat) : DE := fun s => (f s).bind fun p => (contents p.2 i).bind fun ds => if scalD p.1 = true ∧ ds.all scalD = true then some (.bool (if neg then !ds.any (fun z => PyData.eqv z p.1) else ds.any fun z => PyData.eqv z p.1), p.2) else none
/-- x.append(e) -/
def sApp (i : Nat) (f : DE) : DS := fun s => (contents s i).bind fun _ => (f s).bind fun p => (contents p.2 i).bind fun ds => if ds.length < sizeLine then some (.nx (setC p.2 i (ds ++ [p.1]))) else none
/-- x[g] = f -/
def sSetIx (i : Nat) (f g : DE) : DS := fun s => (f s).bind fun p => (contents p.2 i).bind fun _ => (g p.2).bind fun q => (contents q.2 i).bind fun ds => match q.1 with
  | .int k => (ixN ds.length k).map fun j => .nx (setC q.2 i (ds.set j p.1))
  | _ => none
section
variable {X : Cx} {Z : Par} {a b e : Expr} {es : List Expr} {pos : Pos} {fa fb fc : DE} {ff : DF} {ga : DA} {st : Stmt} {sts : List Stmt} {f g : DS} {t : DT}
theorem dixC (i : Nat) (ha : PE X a (tVar i)) (hb : PE X b (lft X.K Z fb)) (hs : PlainIx b := by exact fun _ _ => rfl) : PE X (.Subscript a b pos) (lft X.K Z (dIxC i fb)) := PEimp (pe_ix ix_list ha hb hs) fun σ H Q h => by
  obtain ⟨M, s, d, s', rl, hf, k⟩ := h
  unfold dIxC at hf
  simp only [Option.bind_eq_some_iff] at hf
  obtain ⟨ds0, h0, ⟨d1, s1⟩, h1, ds, h2, h3⟩ := hf
  dsimp only at h2 h3
  split at h3
  · rename_i kk
    simp only [Option.map_eq_some_iff] at h3
    obtain ⟨d2, h3, h4⟩ := h3
    cases h4
    obtain ⟨a0, xs0, g1, _⟩ := rl.at h0
    refine ⟨.ref a0, g1, M, s, _, _, rl, h1, fun v H1 k1 r1 t1 => ?_⟩
    obtain ⟨a1, xs, e1, e2, e3, _⟩ := r1.at h2
    rw [g1] at e1
    cases e1
    obtain ⟨v2, e4, e5⟩ := atI_dt e3 h3
    exact ⟨a0, xs, kk, v2, rfl, t1.inti, .inl (.inl e2), e4, k _ H1 k1 r1 e5⟩
  · cases h3
theorem scal_v {K : PySem.W.Frag} {mu : Addr → Prop} {H : Hp} {v : V} {d : PyData} (t : Dt K mu H v d) (h : scalD d = true) : flatV v = true := by
  cases t <;> first | rfl | (exact absurd h (by simp [scalD]))
theorem scal_vs {K : PySem.W.Frag} {mu : Addr → Prop} {H : Hp} : ∀ {vs : List V} {ds : List PyData}, DtAll K mu H vs ds → ds.all scalD = true → vs.all flatV = true
  | _, _, .nil, _ => rfl
  | _, _, .cons h t, e => by
    rw [List.all_cons, Bool.and_eq_true] at e ⊢
    exact ⟨scal_v h e.1, scal_vs t e.2⟩
theorem scal_eq {K : PySem.W.Frag} {mu : Addr → Prop} {H : Hp} {v w : V} {d e : PyData} (t : Dt K mu H v d) (u : Dt K mu H w e) (h : scalD d = true) (h' : scalD e = true) : eqV v w = PyData.eqv d e := by
  cases d with
  | list _ => cases h
  | tuple _ => cases h
  | dict _ => cases h
  | none => cases t; cases e <;> first | (cases h'; done) | (cases u; simp [eqV, PyData.eqv])
  | bool _ => cases t; cases e <;> first | (cases h'; done) | (cases u; simp [eqV, PyData.eqv])
  | int _ => cases t; cases e <;> first | (cases h'; done) | (cases u; simp [eqV, PyData.eqv])
  | str _ => cases t; cases e <;> first | (cases h'; done) | (cases u; simp [eqV, PyData.eqv])
theorem scal_any {K : PySem.W.Frag} {mu : Addr → Prop} {H : Hp} {v : V} {d : PyData} (u : Dt K mu H v d) (h : scalD d = true) : ∀ {vs : List V} {ds : List PyData}, DtAll K mu H vs ds → ds.all scalD = true → inV v vs = ds.any fun z => PyData.eqv z d
  | _, _, .nil, _ => rfl
  | _, _, .cons g t, e => by
    rw [List.all_cons, Bool.and_eq_true] at e
    have ih := scal_any u h t e.2
    unfold inV at ih ⊢
    rw [List.any_cons, List.any_cons, ih, scal_eq g u e.1 h]
theorem dinC (neg : Bool) {op : CmpOp} (hop : OpR X (compareOp op) (rIn X.K neg)) (i : Nat) (ha : PE X a (lft X.K Z fa)) (hb : PE X b (tVar i)) (hm : behindInMarks op b = false) : PE X (.Compare a [op] [b] pos) (lft X.K Z (dInC neg fa i)) := PEimp (pe_cmpR hop ha hb hm) fun σ H Q h => by
  obtain ⟨M, s, d, s', rl, hf, k⟩ := h
  unfold dInC at hf
  simp only [Option.bind_eq_some_iff] at hf
  obtain ⟨⟨d1, s1⟩, h1, ds, h2, h3⟩ := hf
  dsimp only at h2 h3
  split at h3
  · rename_i hc
    cases h3
    refine ⟨M, s, d1, _, rl, h1, fun v H1 k1 r1 t1 => ?_⟩
    obtain ⟨a1, xs, e1, e2, e3, _⟩ := r1.at h2
    refine ⟨.ref a1, e1, a1, xs, rfl, .inl (.inl (.inl e2)), scal_v t1 hc.1, scal_vs e3 hc.2, ?_⟩
    rw [scal_any t1 hc.1 e3 hc.2]
    exact k _ H1 k1 r1 (.bl _)
  · cases h3
theorem dtinC (neg : Bool) {op : CmpOp} (hop : OpR X (compareOp op) (rIn X.K neg)) (i : Nat) (ha : PE X a (lft X.K Z fa)) (hb : PE X b (tVar i)) (hm : behindInMarks op b = false) : PT X (.Compare a [op] [b] pos) (lfT X.K Z (dTst (dInC neg fa i))) := PTimp (pt_cmpR hop ha hb hm) fun σ H Q h => by
  obtain ⟨M, s, d, s', rl, hf, k⟩ := h
  have hf := dTst_some hf
  unfold dInC at hf
  simp only [Option.bind_eq_some_iff] at hf
  obtain ⟨⟨d1, s1⟩, h1, ds, h2, h3⟩ := hf
  dsimp only at h2 h3
  split at h3
  · rename_i hc
    simp only [Option.some.injEq, Prod.mk.injEq, PyData.bool.injEq] at h3
    obtain ⟨h3, rfl⟩ := h3
    refine ⟨M, s, d1, _, rl, h1, fun v H1 k1 r1 t1 => ?_⟩
    obtain ⟨a1, xs, e1, e2, e3, _⟩ := r1.at h2
    refine ⟨.ref a1, e1, a1, xs, rfl, .inl (.inl (.inl e2)), scal_v t1 hc.1, scal_vs e3 hc.2, ?_⟩
    rw [scal_any t1 hc.1 e3 hc.2]
    exact ⟨_, rfl, by rw [h3]; exact k H1 k1 r1⟩
  · cases h3
theorem upd_lst {H : Hp} {a : Addr} {o : HO} : ∀ b u, H b = some u → b ≠ a → (upd H a o) b = some u := fun b u e n => by rw [upd_ne n]; exact e
theorem sapp (i : Nat) {apos cpos : Pos} (ha : PE X a (tVar i)) (hb : PE X b (lft X.K Z fb)) (hbase : attributeBase a "append" X.env (eval a X.env) = eval a X.env := by rfl)
    (hfew : ((backTo cpos (starEach [b] X.env)).all (fun x => !x.1) && (backToKw cpos (keywordEach [] X.env)).all (fun x => x.1.isSome) && decide (([b] : List Expr).length + ([] : List Keyword).length + (if ([] : List Keyword).isEmpty then 0 else 1) < 30)) = true := by rfl)
    (hline : (apos.endLine == cpos.line) = true := by rfl) (hs : starEach [b] X.env = (false, eval b X.env) :: starEach [] X.env := by rfl) (hplain : (backTo cpos (starEach [] X.env)).any (·.1) = false := by rfl)
    (hsw : swapsWith (.Call (.Attribute a "append" apos) [b] [] cpos) none pos.line X.env = pure false := by rfl) :
    PS X (.Expr (.Call (.Attribute a "append" apos) [b] [] cpos) pos) (lfS X.K Z (sApp i fb)) := PSimp (ps_expr (pe_bm PySem.F.plainAttrs_list PySem.F.slot_list_append PySem.F.type_list_append mt_append ha (pa_cons hb pa_nil hs) hbase hfew hline hs hplain) hsw) fun D σ H h => by
  obtain ⟨M, s, fl, rl, hf, k⟩ := h
  unfold sApp at hf
  simp only [Option.bind_eq_some_iff] at hf
  obtain ⟨ds0, h0, ⟨d1, s1⟩, h1, ds, h2, h3⟩ := hf
  dsimp only at h2 h3
  split at h3
  · rename_i hz
    cases h3
    obtain ⟨a0, xs0, g1, g2, _⟩ := rl.at h0
    refine ⟨.ref a0, g1, .inl ⟨rfl, _, .inl (.inl g2)⟩, M, s, d1, s1, rl, h1, fun v H1 k1 r1 t1 => ?_⟩
    obtain ⟨a1, xs, e1, e2, e3, _, e5⟩ := r1.at h2
    rw [g1] at e1
    cases e1
    refine ⟨a0, xs, v, rfl, rfl, e2, by rw [e3.len]; exact hz, ?_⟩
    have kk : Kp (Mu Z M) H1 (Mu Z M) (upd H1 a0 (.lst (xs ++ [v]))) := fun b o e n => ⟨upd_lst b o e (fun z => n (by subst z; assumption)), n⟩
    obtain ⟨r2, k2⟩ := e5 (upd H1 a0 (.lst (xs ++ [v]))) (xs ++ [v]) (ds ++ [d1]) upd_same upd_lst ((e3.append (.cons t1 .nil)).mono kk)
    exact k M σ _ (k1.trans k2) r2
  · cases h3
theorem ssetIx (i : Nat) {e1 c : Expr} {p1 : Pos} {fe fc : DE} (he : PE X e1 (lft X.K Z fe)) (ha : PE X a (tVar i)) (hc : PE X c (lft X.K Z fc))
    (h4 : ∀ v, assign (.Subscript a c p1) X.env v = (do
      let ov ← holding [v] (eval a X.env)
      let iv ← holding [v, ov] (eval c X.env)
      standAt p1
      holding [v, ov, iv] (setItem ov iv v)
      release [v, ov, iv] []) := by intro _; rfl)
    (hs : swapsWithSole [.Subscript a c p1] e1 pos.line X.env = pure false := by rfl) (hw : swappedStores [.Subscript a c p1] e1 X.env = pure none := by rfl) (h1 : (assignEach [.Subscript a c p1] X.env).map (·.2) = [assign (.Subscript a c p1) X.env] := by rfl) :
    PS X (.Assign [.Subscript a c p1] e1 pos) (lfS X.K Z (sSetIx i fe fc)) := PSimp (ps_asg he (pg_sub ha hc set_list h4) hs hw h1) fun D σ H h => by
  obtain ⟨M, s, fl, rl, hf, k⟩ := h
  unfold sSetIx at hf
  simp only [Option.bind_eq_some_iff] at hf
  obtain ⟨⟨d1, s1⟩, h1, ds0, h0, ⟨d2, s2⟩, h2, ds, h3, h4⟩ := hf
  dsimp only at h0 h2 h3 h4
  split at h4
  · rename_i kk
    simp only [Option.map_eq_some_iff] at h4
    obtain ⟨j, h4, h5⟩ := h4
    cases h5
    refine ⟨M, s, d1, _, rl, h1, fun v H1 k1 r1 t1 => ?_⟩
    obtain ⟨a0, xs0, g1, g2, _⟩ := r1.at h0
    refine ⟨.ref a0, g1, M, s1, _, s2, r1, h2, fun w H2 k2 r2 t2 => ?_⟩
    obtain ⟨a1, xs, e1, e2, e3, _, e5⟩ := r2.at h3
    rw [g1] at e1
    cases e1
    refine ⟨a0, xs, kk, j, rfl, t2.inti, e2, by rw [e3.len]; exact h4, ?_⟩
    have kk : Kp (Mu Z M) H2 (Mu Z M) (upd H2 a0 (.lst (xs.set j v))) := fun b o e n => ⟨upd_lst b o e (fun z => n (by subst z; assumption)), n⟩
    obtain ⟨r3, k3⟩ := e5 (upd H2 a0 (.lst (xs.set j v))) (xs.set j v) (ds.set j d1) upd_same upd_lst ((DtAll.set (t1.mono k2.kp) j e3).mono kk)
    exact k M σ _ (k1.trans (k2.trans k3)) r3
  · cases h4
end
end Dl

namespace Dl
open PySem PySem.Spec PyProof.Rows L2

/-! ### what is walked -/
def Yields (K : PySem.W.Frag) (mu : Addr → Prop) (H : Hp) (J : It) (ds : List PyData) : Prop := ∀ mu' H', Kp mu H mu' H' → ∀ i, (i < ds.length → J.go i H' ∧ ∀ x H'', J.yld i H' x H'' → H'' = H' ∧ ∃ d, ds[i]? = some d ∧ Dt K mu' H' x d) ∧ (ds.length ≤ i → J.stop i H')
theorem Yields.mono {K : PySem.W.Frag} {mu mu' : Addr → Prop} {H H' : Hp} {J : It} {ds : List PyData} (h : Yields K mu H J ds) (k : Kp mu H mu' H') : Yields K mu' H' J ds := fun m2 H2 k2 i => h m2 H2 (k.trans k2) i
def lfI (K : PySem.W.Frag) (Z : Par) (f : DF) : TI := fun σ H R => ∃ M s ds s', Rel K Z M σ H s ∧ f s = some (ds, s') ∧ ∀ J H', Kq Z M H M H' → Rel K Z M σ H' s' → Yields K (Mu Z M) H' J ds → R J H'
theorem PIimp {X : Cx} {tg e : Expr} {t t' : TI} (h : PI X tg e t) (i : ∀ σ H Q, t' σ H Q → t σ H Q) : PI X tg e t' := ⟨fun pins s σ H Q I q => h.run pins s σ H Q I (i σ H Q q)⟩
/-- a list, a tuple, a text's signs, a range's numbers -/
def itL (f : DE) : DF := fun s => (f s).bind fun p => match p.1 with
  | .list ds => some (ds, p.2)
  | _ => none
def itT (f : DE) : DF := fun s => (f s).bind fun p => match p.1 with
  | .tuple ds => some (ds, p.2)
  | _ => none
def signs (x : Str) : List PyData := x.cps.toList.map fun c => .str ⟨#[c]⟩
def itS (f : DE) : DF := fun s => (f s).bind fun p => match p.1 with
  | .str x => some (signs x, p.2)
  | _ => none
def rng (lo n : Int) : List PyData := (List.range (n - lo).toNat).map fun (k : Nat) => .int (lo + (k : Int))
def itR1 (f : DE) : DF := fun s => (f s).bind fun p => match p.1 with
  | .int n => if -(2 ^ 62) ≤ n ∧ n < 2 ^ 62 then some (rng 0 n, p.2) else none
  | _ => none
def itR2 (f g : DE) : DF := fun s => (f s).bind fun p => (g p.2).bind fun q => match p.1, q.1 with
  | .int lo, .int n => if (-(2 ^ 62) ≤ lo ∧ lo < 2 ^ 62) ∧ -(2 ^ 62) ≤ n ∧ n < 2 ^ 62 then some (rng lo n, q.2) else none
  | _, _ => none
section
variable {K : PySem.W.Frag} {mu : Addr → Prop} {H : Hp}
theorem yields_list {a : Addr} {ds : List PyData} (t : Dt K mu H (.ref a) (.list ds)) : Yields K mu H (Itl K a) ds := fun mu' H' k i => by
  obtain ⟨b, xs, e, h1, h2⟩ := (t.mono k).list
  cases e
  constructor
  · intro hi
    obtain ⟨v, g1, g2⟩ := h2.get (List.getElem?_eq_getElem hi)
    refine ⟨⟨xs, v, h1, g1⟩, fun x H'' hy => ⟨hy.1, _, List.getElem?_eq_getElem hi, ?_⟩⟩
    have e := hy.2 xs h1
    rw [g1] at e
    cases e
    exact g2
  · intro hi
    exact ⟨xs, h1, by rw [h2.len]; exact hi⟩
theorem yields_tup {a : Addr} {ds : List PyData} (t : Dt K mu H (.ref a) (.tuple ds)) : Yields K mu H (Itt K a) ds := fun mu' H' k i => by
  obtain ⟨b, xs, e, h1, h2⟩ := (t.mono k).tuple
  cases e
  constructor
  · intro hi
    obtain ⟨v, g1, g2⟩ := h2.get (List.getElem?_eq_getElem hi)
    refine ⟨⟨xs, v, h1, g1⟩, fun x H'' hy => ⟨hy.1, _, List.getElem?_eq_getElem hi, ?_⟩⟩
    have e := hy.2 xs h1
    rw [g1] at e
    cases e
    exact g2
  · intro hi
    exact ⟨xs, h1, by rw [h2.len]; exact hi⟩
theorem yields_str (x : Str) : Yields K mu H (Its x) (signs x) := fun mu' H' k i => by
  have hl : (signs x).length = x.cps.size := by unfold signs; rw [List.length_map, Array.length_toList]
  constructor
  · intro hi
    rw [hl] at hi
    refine ⟨hi, fun v H'' hy => ⟨hy.1, ?_⟩⟩
    obtain ⟨c, e1, e2⟩ := hy.2
    refine ⟨.str ⟨#[c]⟩, ?_, by rw [e2]; exact .str _⟩
    unfold signs
    rw [List.getElem?_map, Array.getElem?_toList, e1]
    rfl
  · intro hi
    rw [hl] at hi
    exact hi
theorem yields_rng (lo n : Int) : Yields K mu H (Itr lo (n - lo).toNat) (rng lo n) := fun mu' H' k i => by
  have hl : (rng lo n).length = (n - lo).toNat := by unfold rng; rw [List.length_map, List.length_range]
  constructor
  · intro hi
    rw [hl] at hi
    refine ⟨hi, fun v H'' hy => ⟨hy.1, .int (lo + (i : Int)), ?_, by rw [hy.2]; exact .int _⟩⟩
    unfold rng
    rw [List.getElem?_map, List.getElem?_range hi]
    rfl
  · intro hi
    rw [hl] at hi
    exact hi
end
section
variable {X : Cx} {Z : Par} {tg a b e : Expr} {es : List Expr} {pos : Pos} {fa fb fc : DE} {ff : DF} {ga : DA} {st : Stmt} {sts : List Stmt} {f g : DS} {t : DT}
theorem pil (h : PE X e (lft X.K Z fa)) : PI X tg e (lfI X.K Z (itL fa)) := PIimp (pi_list h) fun σ H R h => by
  obtain ⟨M, s, ds, s', rl, hf, k⟩ := h
  unfold itL at hf
  simp only [Option.bind_eq_some_iff] at hf
  obtain ⟨⟨d1, s1⟩, h1, h2⟩ := hf
  dsimp only at h2
  split at h2
  · cases h2
    refine ⟨M, s, _, _, rl, h1, fun v H1 k1 r1 t1 => ?_⟩
    obtain ⟨a, xs, rfl, g1, g2⟩ := t1.list
    exact ⟨a, rfl, ⟨xs, g1⟩, k _ H1 k1 r1 (yields_list t1)⟩
  · cases h2
theorem pit (h : PE X e (lft X.K Z fa)) : PI X tg e (lfI X.K Z (itT fa)) := PIimp (pi_tup h) fun σ H R h => by
  obtain ⟨M, s, ds, s', rl, hf, k⟩ := h
  unfold itT at hf
  simp only [Option.bind_eq_some_iff] at hf
  obtain ⟨⟨d1, s1⟩, h1, h2⟩ := hf
  dsimp only at h2
  split at h2
  · cases h2
    refine ⟨M, s, _, _, rl, h1, fun v H1 k1 r1 t1 => ?_⟩
    obtain ⟨a, xs, rfl, g1, g2⟩ := t1.tuple
    exact ⟨a, rfl, ⟨xs, g1⟩, k _ H1 k1 r1 (yields_tup t1)⟩
  · cases h2
theorem pis (h : PE X e (lft X.K Z fa)) : PI X tg e (lfI X.K Z (itS fa)) := PIimp (pi_str h) fun σ H R h => by
  obtain ⟨M, s, ds, s', rl, hf, k⟩ := h
  unfold itS at hf
  simp only [Option.bind_eq_some_iff] at hf
  obtain ⟨⟨d1, s1⟩, h1, h2⟩ := hf
  dsimp only at h2
  split at h2
  · rename_i x
    cases h2
    refine ⟨M, s, _, _, rl, h1, fun v H1 k1 r1 t1 => ?_⟩
    exact ⟨x, t1.text, k _ H1 k1 r1 (yields_str x)⟩
  · cases h2
theorem pir1 {p : Pos} (hg : Gl X "range") (hm : X.mg "range" = none) (h : PE X a (lft X.K Z fa)) (hs : starEach [a] X.env = [(false, eval a X.env)] := by rfl) : PI X tg (.Call (.Name "range" p) [a] [] pos) (lfI X.K Z (itR1 fa)) := PIimp (pi_range1 hg hm (pa_cons h pa_nil hs) hs) fun σ H R h => by
  obtain ⟨M, s, ds, s', rl, hf, k⟩ := h
  unfold itR1 at hf
  simp only [Option.bind_eq_some_iff] at hf
  obtain ⟨⟨d1, s1⟩, h1, h2⟩ := hf
  dsimp only at h2
  split at h2
  · rename_i n
    split at h2
    · rename_i hb
      cases h2
      refine ⟨M, s, _, _, rl, h1, fun v H1 k1 r1 t1 => ?_⟩
      refine ⟨n, by rw [t1.inti], hb.1, hb.2, ?_⟩
      have y : Yields X.K (Mu Z M) H1 (Itr 0 (n - 0).toNat) (rng 0 n) := yields_rng 0 n
      rw [show n - 0 = n from Int.sub_zero n] at y
      exact k _ H1 k1 r1 y
    · cases h2
  · cases h2
theorem pir2 {p : Pos} (hg : Gl X "range") (hm : X.mg "range" = none) (h : PE X a (lft X.K Z fa)) (h' : PE X b (lft X.K Z fb)) (hs : starEach [a, b] X.env = (false, eval a X.env) :: starEach [b] X.env := by rfl) (hs2 : starEach [b] X.env = [(false, eval b X.env)] := by rfl) : PI X tg (.Call (.Name "range" p) [a, b] [] pos) (lfI X.K Z (itR2 fa fb)) := PIimp (pi_range2 hg hm (pa_cons h (pa_cons h' pa_nil hs2) hs) (by rw [hs, hs2]) hs2) fun σ H R h => by
  obtain ⟨M, s, ds, s', rl, hf, k⟩ := h
  unfold itR2 at hf
  simp only [Option.bind_eq_some_iff] at hf
  obtain ⟨⟨d1, s1⟩, h1, ⟨d2, s2⟩, h2, h3⟩ := hf
  dsimp only at h2 h3
  split at h3
  · rename_i lo n
    split at h3
    · rename_i hb
      cases h3
      refine ⟨M, s, _, _, rl, h1, fun v H1 k1 r1 t1 => ⟨M, s1, _, _, r1, h2, fun w H2 k2 r2 t2 => ?_⟩⟩
      exact ⟨lo, n, by rw [t1.inti, t2.inti], ⟨hb.1.1, hb.1.2, hb.2.1, hb.2.2⟩, k _ H2 (k1.trans k2) r2 (yields_rng lo n)⟩
    · cases h3
  · cases h3
end

/-! ### targets -/
/-- a target stores what gd says -/
def TgOk (K : PySem.W.Frag) (g : TG) (gd : PyData → Sl → Option Sl) : Prop := ∀ (Z : Par) (M : List Addr) (σ : L2.St) (H : Hp) (s s' : Sl) (x : V) (d : PyData) (Q : L2.St → Hp → Prop), Rel K Z M σ H s → Dt K (Mu Z M) H x d → gd d s = some s' →
  (∀ M' σ', Rel K Z M' σ' H s' → Kq Z M H M' H → Q σ' H) → g x σ H Q
def tgN (i : Nat) : PyData → Sl → Option Sl := fun d s => some (s.set i (.dat d))
def tgTs : List (PyData → Sl → Option Sl) → List PyData → Sl → Option Sl
  | [], [], s => some s
  | g :: gs, d :: ds, s => (g d s).bind fun s' => tgTs gs ds s'
  | _, _, _ => none
def tgT (gs : List (PyData → Sl → Option Sl)) : PyData → Sl → Option Sl := fun d s => match d with
  | .tuple ds => tgTs gs ds s
  | _ => none
section
variable {K : PySem.W.Frag}
theorem tgn {i : Nat} : TgOk K (gName i) (tgN i) := fun Z M σ H s s' x d Q r t e k => by
  cases e
  obtain ⟨M', _, r2, k2⟩ := r.setDat t i
  exact k M' _ r2 k2
def TgsOk (K : PySem.W.Frag) (g : TGs) (gd : List PyData → Sl → Option Sl) : Prop := ∀ (Z : Par) (M : List Addr) (σ : L2.St) (H : Hp) (s s' : Sl) (xs : List V) (ds : List PyData) (Q : L2.St → Hp → Prop), Rel K Z M σ H s → DtAll K (Mu Z M) H xs ds → gd ds s = some s' →
  (∀ M' σ', Rel K Z M' σ' H s' → Kq Z M H M' H → Q σ' H) → g xs σ H Q
theorem tgsnil : TgsOk K gNil (tgTs []) := fun Z M σ H s s' xs ds Q r t e k => by
  cases ds with
  | nil => cases t; cases e; exact ⟨rfl, k M σ r (Kq.refl _ _ _)⟩
  | cons _ _ => cases e
theorem tgscons {g : TG} {gs : TGs} {gd : PyData → Sl → Option Sl} {gds : List (PyData → Sl → Option Sl)} (h : TgOk K g gd) (hs : TgsOk K gs (tgTs gds)) : TgsOk K (gCons g gs) (tgTs (gd :: gds)) := fun Z M σ H s s' xs ds Q r t e k => by
  cases ds with
  | nil => cases e
  | cons d ds =>
    cases t with
    | cons t1 t2 =>
      unfold tgTs at e
      simp only [Option.bind_eq_some_iff] at e
      obtain ⟨s1, e1, e2⟩ := e
      exact ⟨_, _, rfl, h Z M σ H s s1 _ d _ r t1 e1 fun M1 σ1 r1 k1 => hs Z M1 σ1 H s1 s' _ ds _ r1 (t2.mono k1.kp) e2 fun M2 σ2 r2 k2 => k M2 σ2 r2 (k1.trans k2)⟩
theorem tgTs_len : ∀ {gds : List (PyData → Sl → Option Sl)} {ds : List PyData} {s s' : Sl}, tgTs gds ds s = some s' → ds.length = gds.length
  | [], [], _, _, _ => rfl
  | [], _ :: _, _, _, e => by cases e
  | _ :: _, [], _, _, e => by cases e
  | g :: gs, d :: ds, s, s', e => by
    unfold tgTs at e
    simp only [Option.bind_eq_some_iff] at e
    obtain ⟨s1, _, e2⟩ := e
    rw [List.length_cons, List.length_cons, tgTs_len e2]
theorem tgt {n : Nat} {gs : TGs} {gds : List (PyData → Sl → Option Sl)} (hn : n = gds.length) (hs : TgsOk K gs (tgTs gds)) : TgOk K (gTup K n gs) (tgT gds) := fun Z M σ H s s' x d Q r t e k => by
  unfold tgT at e
  split at e
  · rename_i ds
    obtain ⟨a, xs, rfl, h1, h2⟩ := t.tuple
    exact ⟨a, xs, rfl, h1, by rw [h2.len, tgTs_len e, hn], hs Z M σ H s s' xs ds Q r h2 e k⟩
  · cases e
end

/-! ### for -/
def runFor (gd : PyData → Sl → Option Sl) (b : DS) : List PyData → Sl → Option Fl
  | [], s => some (.nx s)
  | d :: r, s => (gd d s).bind fun s1 => (b s1).bind fun fl => match fl with
    | .nx s' => runFor gd b r s'
    | .ct s' => runFor gd b r s'
    | .bk s' => some (.nx s')
    | .rt d s' => some (.rt d s')
def sFor (fi : DF) (gd : PyData → Sl → Option Sl) (b : DS) : DS := fun s => (fi s).bind fun p => runFor gd b p.1 p.2
def sAsg (f : DE) (gd : PyData → Sl → Option Sl) : DS := fun s => (f s).bind fun p => (gd p.1 p.2).map fun s' => .nx s'
section
variable {X : Cx} {Z : Par} {tg a b e : Expr} {es : List Expr} {pos : Pos} {fa fb fc : DE} {ff : DF} {ga : DA} {st : Stmt} {sts : List Stmt} {f : DS} {t : DT} {g : TG} {gd : PyData → Sl → Option Sl}
theorem lift_for {K : PySem.W.Frag} (hg : TgOk K g gd) {D : Ends} {σ : L2.St} {H : Hp} (h : lfS K Z (sFor ff gd f) D σ H) : tFor (lfI K Z ff) g (lfS K Z f) D σ H := by
  obtain ⟨M, s, fl, rl, hf, k⟩ := h
  unfold sFor at hf
  simp only [Option.bind_eq_some_iff] at hf
  obtain ⟨⟨ds, s1⟩, h1, h2⟩ := hf
  dsimp only at h2
  refine ⟨M, s, ds, s1, rl, h1, fun J H1 k1 r1 y => ?_⟩
  refine ⟨fun i m σ' H' => m = ds.length - i ∧ i ≤ ds.length ∧ ∃ M' s', Kq Z M H1 M' H' ∧ Rel K Z M' σ' H' s' ∧ runFor gd f (ds.drop i) s' = some fl, ⟨ds.length, by simp, Nat.zero_le _, M, s1, Kq.refl _ _ _, r1, h2⟩, ?_⟩
  rintro i m σ' H' ⟨rfl, hi, M', s', k2, r2, h3⟩
  by_cases hlt : i < ds.length
  · have ed : ds.drop i = ds[i] :: ds.drop (i + 1) := List.drop_eq_getElem_cons hlt
    rw [ed] at h3
    unfold runFor at h3
    simp only [Option.bind_eq_some_iff] at h3
    obtain ⟨s2, e1, fl1, e2, e3⟩ := h3
    refine .inr ⟨((y _ _ k2.kp i).1 hlt).1, fun σ3 H3 => ∃ M3 s3, Kq Z M H1 M3 H3 ∧ Rel K Z M3 σ3 H3 s3 ∧ runFor gd f (ds.drop (i + 1)) s3 = some fl, fun σ3 H3 q => ⟨ds.length - (i + 1), by omega, rfl, hlt, q⟩, fun x H'' hy => ?_⟩
    obtain ⟨rfl, d, e4, e5⟩ := ((y _ _ k2.kp i).1 hlt).2 x H'' hy
    rw [List.getElem?_eq_getElem hlt] at e4
    cases e4
    refine hg Z M' σ' _ s' s2 x _ _ r2 e5 e1 fun M3 σ3 r3 k3 => ?_
    refine ⟨M3, s2, fl1, r3, e2, ?_⟩
    have kk : Kq Z M H M3 _ := k1.trans (k2.trans k3)
    cases fl1 with
    | nx s4 => exact fun M4 σ4 H4 k4 r4 => ⟨M4, s4, k2.trans (k3.trans k4), r4, e3⟩
    | ct s4 => exact fun M4 σ4 H4 k4 r4 => ⟨M4, s4, k2.trans (k3.trans k4), r4, e3⟩
    | bk s4 => cases e3; exact fun M4 σ4 H4 k4 r4 => k M4 σ4 H4 (kk.trans k4) r4
    | rt d4 s4 => cases e3; exact fun M4 σ4 H4 v4 k4 r4 t4 => k M4 σ4 H4 v4 (kk.trans k4) r4 t4
  · have e : i = ds.length := by omega
    subst e
    rw [List.drop_length] at h3
    cases h3
    exact .inl ⟨(y _ _ k2.kp _).2 (Nat.le_refl _), k M' σ' H' (k1.trans k2) r2⟩
theorem sfor {iter : Expr} {body : List Stmt} (hp : PassesOwn (model X.prog X.w) X.A X.env X.xe) (hc : X.calm = true) (hi : PI X tg iter (lfI X.K Z ff)) (hg : PG X tg g) (hgd : TgOk X.K g gd) (hb : PSs X body (lfS X.K Z f))
    (hs : ∀ x, foldedSetIterable iter X.env x = pure x := by intro _; rfl) : PS X (.For tg iter body [] pos) (lfS X.K Z (sFor ff gd f)) := PSimp (ps_for hp hc hi hg hb hs) fun _ _ _ h => lift_for hgd h
/-- a, b = e -/
theorem sasg (he : PE X e (lft X.K Z fa)) (hg : PG X tg g) (hgd : TgOk X.K g gd) (hs : swapsWithSole [tg] e pos.line X.env = pure false := by rfl) (hw : swappedStores [tg] e X.env = pure none := by rfl)
    (h1 : (assignEach [tg] X.env).map (·.2) = [assign tg X.env] := by rfl) : PS X (.Assign [tg] e pos) (lfS X.K Z (sAsg fa gd)) := PSimp (ps_asg he hg hs hw h1) fun D σ H h => by
  obtain ⟨M, s, fl, rl, hf, k⟩ := h
  unfold sAsg at hf
  simp only [Option.bind_eq_some_iff, Option.map_eq_some_iff] at hf
  obtain ⟨⟨d, s1⟩, h1, s2, h2, h3⟩ := hf
  cases h3
  exact ⟨M, s, d, s1, rl, h1, fun v H1 k1 r1 t1 => hgd Z M σ H1 s1 s2 v d _ r1 t1 h2 fun M' σ' r2 k2 => k M' σ' H1 (k1.trans k2) r2⟩
/-- a, b = x, y -/
def sPar (i j : Nat) (f g : DE) : DS := fun s => (f s).bind fun p => (g p.2).map fun q => .nx ((q.2.set i (.dat p.1)).set j (.dat q.1))
theorem spar {i j : Nat} {x y : Str} {px py pt : Pos} {kt k2 pt2} (hc : X.calm = true) (hN : X.N.Nodup) (hi : X.N[i]? = some x) (hj : X.N[j]? = some y) (hij : i ≠ j)
    (hx : X.env.scope.names.lookup x = some .local) (hy : X.env.scope.names.lookup y = some .local) (ha : PE X a (lft X.K Z fa)) (hb : PE X b (lft X.K Z fb))
    (hw : swappedStores [.Tuple [.Name x px, .Name y py] kt pt] (.Tuple [a, b] k2 pt2) X.env = pure (some [x, y]))
    (hs : swapsWithSole [.Tuple [.Name x px, .Name y py] kt pt] (.Tuple [a, b] k2 pt2) pos.line X.env = pure false := by rfl) (hs1 : starEach [a, b] X.env = (false, eval a X.env) :: starEach [b] X.env := by rfl) (hs2 : starEach [b] X.env = (false, eval b X.env) :: starEach [] X.env := by rfl) :
    PS X (.Assign [.Tuple [.Name x px, .Name y py] kt pt] (.Tuple [a, b] k2 pt2) pos) (lfS X.K Z (sPar i j fa fb)) := PSimp (ps_par hc hN hi hj hij hx hy (pa_cons ha (pa_cons hb pa_nil hs2) hs1) hw hs) fun D σ H h => by
  obtain ⟨M, s, fl, rl, hf, k⟩ := h
  unfold sPar at hf
  simp only [Option.bind_eq_some_iff, Option.map_eq_some_iff] at hf
  obtain ⟨⟨d, s1⟩, h1, ⟨d2, s2⟩, h2, h3⟩ := hf
  cases h3
  refine ⟨M, s, d, s1, rl, h1, fun v H1 k1 r1 t1 => ⟨M, s1, d2, s2, r1, h2, fun w H2 k2 r2 t2 => ⟨v, w, rfl, ?_⟩⟩⟩
  obtain ⟨M3, _, r3, k3⟩ := r2.setDat (t1.mono k2.kp) i
  obtain ⟨M4, _, r4, k4⟩ := r3.setDat (t2.mono k3.kp) j
  exact k M4 _ H2 (k1.trans (k2.trans (k3.trans k4))) r4
end
end Dl

namespace Dl
open PySem PySem.Spec PyProof.Rows L2

/-! ### comprehensions, one name -/
def isNo : Option SV → Bool
  | some .no => true
  | _ => false
theorem isNo_eq {x : Option SV} (h : isNo x = true) : x = some .no := by
  unfold isNo at h
  split at h
  · rfl
  · cases h
def notOwn : Option SV → Bool
  | some (.own _) => false
  | some (.dic _) => false
  | _ => true
def NoOwn (x : Option SV) : Prop := (∀ ds, x ≠ some (.own ds)) ∧ (∀ c, x ≠ some (.dic c))
theorem notOwn_ne {x : Option SV} (h : notOwn x = true) : NoOwn x := ⟨fun ds e => (by rw [e] at h; cases h), fun c e => (by rw [e] at h; cases h)⟩
def lcRun (j : Nat) (t : DT) (f : DE) : List PyData → Sl → Option (List PyData × Sl)
  | [], s => some ([], s)
  | d :: r, s => (t (s.set j (.dat d))).bind fun p => if notOwn p.2[j]? = true then (if p.1 = true then (f p.2).bind fun q => if notOwn q.2[j]? = true then (lcRun j t f r q.2).map fun w => (q.1 :: w.1, w.2) else none else lcRun j t f r p.2) else none
/-- the comprehension's slot j; what a turn leaves there is forgotten -/
def fLc (fi : DF) (j : Nat) (t : DT) (f : DE) : DF := fun s => (fi s).bind fun p => if isNo p.2[j]? = true ∧ p.1.length < sizeLine then (lcRun j t f p.1 p.2).map fun q => (q.1, q.2.set j .no) else none
def tYesD : DT := fun s => some (true, s)
section
variable {K : PySem.W.Frag} {Z : Par} {M M' : List Addr} {σ : L2.St} {H H' : Hp} {s s' : Sl} {p : Addr} {mu : Addr → Prop} {q : List Addr}
/-- a slot of which nothing is known may hold anything -/
theorem SlAll.anyNo {x : Option V} : ∀ {σ : L2.St} {s : Sl} {M : List Addr} (j : Nat), SlAll K mu q H σ s M → s[j]? = some .no → SlAll K mu q H (σ.set j x) s M
  | _, _, _, _, .nil, e => by simp at e
  | _, _, _, 0, .dat h t, e => by simp at e
  | _, _, _, 0, .no t, e => .no t
  | _, _, _, 0, .rf t, e => by simp at e
  | _, _, _, 0, .own h d n t, e => by simp at e
  | _, _, _, 0, .pot e0 h d t, e => by simp at e
  | _, _, _, j + 1, .dat h t, e => .dat h (SlAll.anyNo j t (by simpa using e))
  | _, _, _, j + 1, .no t, e => .no (SlAll.anyNo j t (by simpa using e))
  | _, _, _, j + 1, .rf t, e => .rf (SlAll.anyNo j t (by simpa using e))
  | _, _, _, j + 1, .own h d n t, e => .own h d n (SlAll.anyNo j t (by simpa using e))
  | _, _, _, j + 1, .pot e0 h d t, e => .pot e0 h d (SlAll.anyNo j t (by simpa using e))
  | _, _, _, 0, .tab .., e => by simp at e
  | _, _, _, j + 1, .tab e0 h d f t, e => .tab e0 h d f (SlAll.anyNo j t (by simpa using e))
  | _, _, _, 0, .dic h n t, e => by simp at e
  | _, _, _, j + 1, .dic h n t, e => .dic h n (SlAll.anyNo j t (by simpa using e))
/-- .. a slot is forgotten (no list of its own) -/
theorem SlAll.forget {x : Option V} : ∀ {σ : L2.St} {s : Sl} {M : List Addr} (j : Nat), SlAll K mu q H σ s M → NoOwn s[j]? → SlAll K mu q H (σ.set j x) (s.set j .no) M
  | _, _, _, _, .nil, e => .nil
  | _, _, _, 0, .dat h t, e => .no t
  | _, _, _, 0, .no t, e => .no t
  | _, _, _, 0, .rf t, e => .no t
  | _, _, _, 0, .own h d n t, e => absurd rfl (e.1 _)
  | _, _, _, 0, .pot e0 h d t, e => .no t
  | _, _, _, j + 1, .dat h t, e => .dat h (SlAll.forget j t (by simpa using e))
  | _, _, _, j + 1, .no t, e => .no (SlAll.forget j t (by simpa using e))
  | _, _, _, j + 1, .rf t, e => .rf (SlAll.forget j t (by simpa using e))
  | _, _, _, j + 1, .own h d n t, e => .own h d n (SlAll.forget j t (by simpa using e))
  | _, _, _, j + 1, .pot e0 h d t, e => .pot e0 h d (SlAll.forget j t (by simpa using e))
  | _, _, _, 0, .tab e0 h d f t, e => .no t
  | _, _, _, j + 1, .tab e0 h d f t, e => .tab e0 h d f (SlAll.forget j t (by simpa using e))
  | _, _, _, 0, .dic h n t, e => absurd rfl (e.2 _)
  | _, _, _, j + 1, .dic h n t, e => .dic h n (SlAll.forget j t (by simpa using e))
theorem SlAll.putDat {v : V} {d : PyData} (hv : Dt K mu H v d) : ∀ {σ : L2.St} {s : Sl} {M : List Addr} (j : Nat), SlAll K mu q H σ s M → NoOwn s[j]? → SlAll K mu q H (σ.set j (some v)) (s.set j (.dat d)) M
  | _, _, _, _, .nil, e => .nil
  | _, _, _, 0, .dat h t, e => .dat hv t
  | _, _, _, 0, .no t, e => .dat hv t
  | _, _, _, 0, .rf t, e => .dat hv t
  | _, _, _, 0, .own h d n t, e => absurd rfl (e.1 _)
  | _, _, _, 0, .pot e0 h d t, e => .dat hv t
  | _, _, _, j + 1, .dat h t, e => .dat h (SlAll.putDat hv j t (by simpa using e))
  | _, _, _, j + 1, .no t, e => .no (SlAll.putDat hv j t (by simpa using e))
  | _, _, _, j + 1, .rf t, e => .rf (SlAll.putDat hv j t (by simpa using e))
  | _, _, _, j + 1, .own h d n t, e => .own h d n (SlAll.putDat hv j t (by simpa using e))
  | _, _, _, j + 1, .pot e0 h d t, e => .pot e0 h d (SlAll.putDat hv j t (by simpa using e))
  | _, _, _, 0, .tab e0 h d f t, e => .dat hv t
  | _, _, _, j + 1, .tab e0 h d f t, e => .tab e0 h d f (SlAll.putDat hv j t (by simpa using e))
  | _, _, _, 0, .dic h n t, e => absurd rfl (e.2 _)
  | _, _, _, j + 1, .dic h n t, e => .dic h n (SlAll.putDat hv j t (by simpa using e))
theorem Rel.withSl (r : Rel K Z M σ H s) {σ' : L2.St} {s' : Sl} (h : SlAll K (Mu Z M) Z.p H σ' s' M) : Rel K Z M σ' H s' := ⟨r.base, r.fr, r.mz, r.pt, h⟩
theorem set_no {s : Sl} {j : Nat} (h : s[j]? = some .no) : s.set j .no = s := by
  apply List.ext_getElem?
  intro i
  by_cases e : i = j
  · subst e
    have hl : i < s.length := (List.getElem?_eq_some_iff.mp h).1
    rw [List.getElem?_set_self hl, h]
  · rw [List.getElem?_set_ne (Ne.symm e)]
end
section
variable {X : Cx} {Z : Par} {tg a b e : Expr} {es : List Expr} {pos : Pos} {fa fb fc : DE} {ff : DF} {ga : DA} {st : Stmt} {sts : List Stmt} {f : DS} {t : DT} {g : TG} {gd : PyData → Sl → Option Sl}
theorem wipe1 (σ : L2.St) (j : Nat) : wipe σ [j] = σ.set j none := rfl
theorem lift_lc {K : PySem.W.Frag} {j : Nat} {σ : L2.St} {H : Hp} {Q : VK} {T : TT} {E : TE} (hT : ∀ D σ H Q, lfT K (Z.add D) t σ H Q → T σ H Q) (hE : ∀ D σ H Q, lft K (Z.add D) fa σ H Q → E σ H Q) (h : lfF K Z (fLc ff j t fa) σ H Q) : tLc (lfI K Z ff) (gName j) T E [j] σ H Q := by
  obtain ⟨M, s, ds, s', rl, hf, k⟩ := h
  unfold fLc at hf
  simp only [Option.bind_eq_some_iff] at hf
  obtain ⟨⟨is, s1⟩, h1, h2⟩ := hf
  dsimp only at h2
  split at h2
  · rename_i hc
    simp only [Option.map_eq_some_iff] at h2
    obtain ⟨⟨os, s2⟩, h2, h3⟩ := h2
    cases h3
    have hc1 := isNo_eq hc.1
    refine ⟨M, s, is, s1, rl, h1, fun J H1 k1 r1 y D hD => ?_⟩
    have hD0 : H D = none := by
      cases q : H D with
      | none => rfl
      | some o =>
        by_cases m : Mu Z M D
        · obtain ⟨u, e⟩ := r1.muT D m
          rw [hD] at e; cases e
        · have := (k1.kp D o q m).1
          rw [hD] at this; cases this
    have npp : D ∉ Z.p := fun z => by
      obtain ⟨o, e⟩ := r1.pt D z
      rw [hD] at e; cases e
    have nDM : D ∉ M := fun z => by
      obtain ⟨_, _, _, o, e⟩ := r1.fr D z
      rw [hD] at e; cases e
    have n0 : Z.H0 D = none := by
      cases q : Z.H0 D with
      | none => rfl
      | some o =>
        have := r1.base D o q npp
        rw [hD] at this; cases this
    have y1 : Yields K (Mu (Z.add D) M) (upd H1 D (.lst [])) J is := y.mono (kp_addNew hD _)
    -- all that stood, but D, stands
    let Kd : Hp → Prop := fun H' => ∀ a o, H1 a = some o → a ∉ Z.p → a ∉ M → H' a = some o
    have kdy : ∀ {H'}, Kd H' → Kp (Mu Z M) H1 (Mu (Z.add D) M) H' := fun {H'} q a o e n => ⟨q a o e (fun z => n (.inr (.inl z))) (fun z => n (.inr (.inr z))), fun z => (mu_add.mp z).elim n (ne_of_none e hD)⟩
    let Wv : Nat → Hp → Prop := fun i H' => ∃ sw acc dacc rest, Kd H' ∧ Rel K (Z.add D) M σ H' (sw.set j .no) ∧ NoOwn sw[j]? ∧
      H' D = some (.lst acc) ∧ DtAll K (Mu (Z.add D) M) H' acc dacc ∧ dacc.length ≤ i ∧ lcRun j t fa (is.drop i) sw = some (rest, s2) ∧ os = dacc ++ rest
    refine ⟨fun i m H' => m = is.length - i ∧ i ≤ is.length ∧ Wv i H', ⟨is.length, by simp, Nat.zero_le _, s1, [], [], os, fun a o e _ _ => grow_new hD a o e, ?_, ?_, upd_same, .nil, Nat.le_refl _, h2, rfl⟩, ?_⟩
    · rw [set_no hc1]
      exact r1.addNew hD _
    · exact ⟨fun ds hh => (by rw [hc1] at hh; cases hh), fun ds hh => (by rw [hc1] at hh; cases hh)⟩
    rintro i m H' ⟨rfl, hi, sw, acc, dacc, rest, k2, r2, hsw, e1, e2, e3, e4, e5⟩
    by_cases hlt : i < is.length
    · have ed : is.drop i = is[i] :: is.drop (i + 1) := List.drop_eq_getElem_cons hlt
      rw [ed] at e4
      unfold lcRun at e4
      simp only [Option.bind_eq_some_iff] at e4
      obtain ⟨⟨b, s3⟩, e6, e7⟩ := e4
      dsimp only at e7
      split at e7
      case isFalse => cases e7
      rename_i n3
      refine .inr ⟨((y _ _ (kdy k2) i).1 hlt).1, Wv (i + 1), fun H3 q => ⟨is.length - (i + 1), by omega, rfl, hlt, q⟩, fun x H'' hy => ?_⟩
      obtain ⟨rfl, d, e8, e9⟩ := ((y _ _ (kdy k2) i).1 hlt).2 x H'' hy
      rw [List.getElem?_eq_getElem hlt] at e8
      cases e8
      refine ⟨by rw [wipe1, wipe1, List.set_set, List.set_set], ?_⟩
      have r3 : Rel K (Z.add D) M ((wipe σ [j]).set j (some x)) H'' (sw.set j (.dat is[i])) := by
        have q := (r2.sl.putDat e9 j ⟨(by
          intro ds hh
          by_cases hl : j < sw.length
          · rw [List.getElem?_set_self hl] at hh; cases hh
          · rw [List.getElem?_eq_none (by simpa using hl)] at hh; cases hh), (by
          intro ds hh
          by_cases hl : j < sw.length
          · rw [List.getElem?_set_self hl] at hh; cases hh
          · rw [List.getElem?_eq_none (by simpa using hl)] at hh; cases hh)⟩)
        rw [List.set_set] at q
        refine r2.withSl ?_
        rw [wipe1, List.set_set]
        exact q
      have back : ∀ {H4 : Hp} {s4 : Sl}, Rel K (Z.add D) M ((wipe σ [j]).set j (some x)) H4 s4 → NoOwn s4[j]? → Rel K (Z.add D) M σ H4 (s4.set j .no) := fun {H4 s4} r4 hs4 => by
        have q := r4.sl.forget (x := σ[j]?.join) j hs4
        refine r4.withSl ?_
        rw [wipe1, List.set_set, List.set_set] at q
        have e : σ.set j (σ[j]?.join) = σ := by
          apply List.ext_getElem?
          intro i'
          by_cases e : i' = j
          · subst e
            by_cases hl : i' < σ.length
            · rw [List.getElem?_set_self hl, List.getElem?_eq_getElem hl]; rfl
            · rw [List.getElem?_eq_none (by simpa using hl), List.getElem?_eq_none (by simpa using hl)]
          · rw [List.getElem?_set_ne (Ne.symm e)]
        rw [e] at q
        exact q
      refine hT D _ _ _ ⟨M, _, b, s3, r3, e6, fun H4 k4 r4 => ?_⟩
      have eD4 : H4 D = some (.lst acc) := (k4 D _ e1 npp nDM).1
      have kd4 : Kd H4 := fun a o e n1 n2 => (k4 a o (k2 a o e n1 n2) n1 n2).1
      cases b with
      | true =>
        rw [if_pos rfl] at e7
        simp only [Option.bind_eq_some_iff] at e7
        obtain ⟨⟨d2, s4⟩, e10, e11⟩ := e7
        dsimp only at e11
        split at e11
        case isFalse => cases e11
        rename_i n4
        simp only [Option.map_eq_some_iff] at e11
        obtain ⟨⟨w, s5⟩, e11, e12⟩ := e11
        cases e12
        refine iteT ?_
        refine hE D _ _ _ ⟨M, s3, d2, s4, r4, e10, fun v H5 k5 r5 t5 => ?_⟩
        have eD5 : H5 D = some (.lst acc) := (k5 D _ eD4 npp nDM).1
        have nm : Mu (Z.add D) M D := .inl (.inr rfl)
        have kw : Kp (Mu (Z.add D) M) H5 (Mu (Z.add D) M) (upd H5 D (.lst (acc ++ [v]))) := fun a u e n => ⟨by
          have na : a ≠ D := fun z => n (by rw [z]; exact nm)
          rw [upd_ne na]; exact e, n⟩
        have lacc := e2.len
        refine ⟨acc, eD5, by omega, s4, acc ++ [v], dacc ++ [d2], w, fun a o e n1 n2 => ?_, (back r5 (notOwn_ne n4)).wrAdd npp _ n0, notOwn_ne n4, upd_same, ((e2.mono (k4.kp.trans k5.kp)).append (.cons t5 .nil)).mono kw, by rw [List.length_append]; exact Nat.succ_le_succ e3, e11, by rw [e5, List.append_assoc]; rfl⟩
        have na : a ≠ D := ne_of_none e hD
        rw [upd_ne na]
        exact (k5 a o (kd4 a o e n1 n2) n1 n2).1
      | false =>
        rw [if_neg (by simp)] at e7
        refine iteF ?_
        exact ⟨s3, acc, dacc, rest, kd4, back r4 (notOwn_ne n3), notOwn_ne n3, eD4, e2.mono k4.kp, by omega, e7, e5⟩
    · have e : i = is.length := by omega
      subst e
      rw [List.drop_length] at e4
      cases e4
      rw [List.append_nil] at e5
      subst e5
      refine .inl ⟨(y _ _ (kdy k2) _).2 (Nat.le_refl _), ?_⟩
      exact k D acc H' hD0 e1 (fun a o e n1 n2 => ⟨k2 a o (k1 a o e n1 n2).1 n1 n2, n2⟩) r2 e2
  · cases h2
theorem flc {elt iter : Expr} {x : Str} {px : Pos} {ifs : List Expr} {scope : Scope} {j : Nat} (hc : X.calm = true) (hN : X.N.Nodup) (hi : PI X (.Name x px) iter (lfI X.K Z ff)) (ok : BlkOk X.N X.env.scope scope [(x, j)])
    (hg : ∀ (s : Shared) (H : Hp) (C : Addr) (cl : List (Str × Addr)) (fp : List Addr), PG (X.blk s H scope (compEnvC scope cl C X.env) fp) (.Name x px) (gName j))
    (ht : ∀ (s : Shared) (H : Hp) (C : Addr) (cl : List (Str × Addr)) (fp : List Addr) (Z : Par), PTs (X.blk s H scope (compEnvC scope cl C X.env) fp) ifs (lfT X.K Z t))
    (he : ∀ (s : Shared) (H : Hp) (C : Addr) (cl : List (Str × Addr)) (fp : List Addr) (Z : Par), PE (X.blk s H scope (compEnvC scope cl C X.env) fp) elt (lft X.K Z fa)) (hs : ∀ x, foldedSetIterable iter X.env x = pure x := by intro _; rfl) :
    PE X (.ListComp elt [⟨.Name x px, iter, ifs, 0⟩] scope pos) (lfF X.K Z (fLc ff j t fa)) :=
  PEimp (pe_lc hc hN hi ok hg (tt := fun σ H Q => ∃ Z, lfT X.K Z t σ H Q) (te := fun σ H Q => ∃ Z, lft X.K Z fa σ H Q)
    (fun s H0 C cl fp => ⟨fun pins s' σ H Q I ⟨Z, q⟩ => (ht s H0 C cl fp Z).run pins s' σ H Q I q⟩) (fun s H0 C cl fp => ⟨fun pins s' σ H Q I ⟨Z, q⟩ => (he s H0 C cl fp Z).run pins s' σ H Q I q⟩) hs) fun σ H Q h => lift_lc (fun _ _ _ _ q => ⟨_, q⟩) (fun _ _ _ _ q => ⟨_, q⟩) h
theorem tynil : PTs X [] (lfT X.K Z tYesD) := ⟨fun pins s σ H Q I h => pts_nil.run pins s σ H Q I (by
  obtain ⟨M, s, c, s', rl, hf, k⟩ := h
  cases hf
  exact k H (Kq.refl _ _ _) rl)⟩
end
end Dl

namespace Dl
open PySem PySem.Spec PyProof.Rows L2

/-! ### promises: a function of data; one that changes the list handed in first; one that makes a list which nobody else has -/
def spP (K : PySem.W.Frag) (m : List PyData → Option PyData) : Sp := fun vs H Q _ => ∃ mu ds d, (∀ a, mu a → ∃ o, H a = some o) ∧ DtAll K mu H vs ds ∧ m ds = some d ∧
  ∀ v H', (∀ a o, H a = some o → H' a = some o) → Dt K mu H' v d → Q v H'
def spM (K : PySem.W.Frag) (m : List PyData → List PyData → Option (PyData × List PyData)) : Sp := fun vs H Q _ => ∃ mu p xs pd rest ds d pd', vs = .ref p :: rest ∧ mu p ∧ (∀ a, mu a → ∃ o, H a = some o) ∧ H p = some (.lst xs) ∧ DtAll K mu H xs pd ∧ DtAll K mu H rest ds ∧
  m pd ds = some (d, pd') ∧ ∀ v H' xs', (∀ a o, H a = some o → a ≠ p → H' a = some o) → H' p = some (.lst xs') → DtAll K mu H' xs' pd' → Dt K mu H' v d → Q v H'
def spF (K : PySem.W.Frag) (m : List PyData → Option (List PyData)) : Sp := fun vs H Q _ => ∃ mu ds es, (∀ a, mu a → ∃ o, H a = some o) ∧ DtAll K mu H vs ds ∧ m ds = some es ∧
  ∀ p xs H', H p = none → (∀ a o, H a = some o → H' a = some o) → H' p = some (.lst xs) → DtAll K (fun a => mu a ∨ a = p) H' xs es → Q (.ref p) H'

def dCall (m : List PyData → Option PyData) (g : DA) : DE := fun s => (g s).bind fun p => (m p.1).map fun d => (d, p.2)
def dCallM (m : List PyData → List PyData → Option (PyData × List PyData)) (i : Nat) (g : DA) : DE := fun s => (contents s i).bind fun _ => (g s).bind fun p => (contents p.2 i).bind fun pd => (m pd p.1).map fun q => (q.1, setC p.2 i q.2)
def fCall (m : List PyData → Option (List PyData)) (g : DA) : DF := fun s => (g s).bind fun p => (m p.1).map fun d => (d, p.2)
section
variable {X : Cx} {Z : Par} {a b e : Expr} {es : List Expr} {pos : Pos} {fa fb fc : DE} {ff : DF} {ga : DA} {k : Nat} {f : Addr} {fd : FuncData} {ps : List Str} {x : Str} {p : Pos} {E : XK}
theorem lift_call {K : PySem.W.Frag} {m : List PyData → Option PyData} {σ : L2.St} {H : Hp} {Q : VK} (h : lft K Z (dCall m ga) σ H Q) : tCall (spP K m) [] E (lfA K Z ga) σ H Q := by
  obtain ⟨M, s, d, s', rl, hf, k⟩ := h
  unfold dCall at hf
  simp only [Option.bind_eq_some_iff, Option.map_eq_some_iff] at hf
  obtain ⟨⟨ds, s1⟩, h1, d1, h2, h3⟩ := hf
  cases h3
  refine ⟨M, s, ds, _, rl, h1, fun vs H1 k1 r1 t1 => ?_⟩
  show spP K m (vs ++ []) H1 Q E
  rw [List.append_nil]
  exact ⟨Mu Z M, ds, _, r1.muT, t1, h2, fun v H2 g2 t2 => k v H2 (k1.trans (kq_grow g2)) (r1.grow g2) t2⟩
theorem dcall {m : List PyData → Option PyData} (F : FnOk X.prog X.w X.K X.mg X.base CX0 k f fd ps (spP X.K m)) (hr : Room k X.A) (hg : Gl X x) (hm : X.mg x = some (.ref f)) (hk : PySem.W.keepIn X.K (.ref f) = true) (hb : Binds X.K fd ps []) (ha : PA X (e :: es) (lfA X.K Z ga)) (hx : Passes CX0 X E0 := by exact pass0)
    (hdb : (x == ("__debug__" : Str)) = false := by decide) (he : starEach (e :: es) X.env = (false, eval e X.env) :: starEach es X.env := by rfl) (hpl : (backTo pos (starEach es X.env)).any (·.1) = false := by rfl) :
    PE X (.Call (.Name x p) (e :: es) [] pos) (lft X.K Z (dCall m ga)) := PEimp (pe_call F hr hg hm hk hb .nil hx ha hdb he hpl) fun _ _ _ h => lift_call h
theorem dcall0 {m : List PyData → Option PyData} (F : FnOk X.prog X.w X.K X.mg X.base CX0 k f fd ps (spP X.K m)) (hr : Room k X.A) (hg : Gl X x) (hm : X.mg x = some (.ref f)) (hk : PySem.W.keepIn X.K (.ref f) = true) (hb : Binds X.K fd ps []) (hx : Passes CX0 X E0 := by exact pass0)
    (hdb : (x == ("__debug__" : Str)) = false := by decide) : PE X (.Call (.Name x p) [] [] pos) (lft X.K Z (dCall m aNil)) := PEimp (pe_call0 F hr hg hm hk hb .nil hx hdb) fun σ H Q h => by
  have q := lift_call (E := E0) h
  obtain ⟨M, s, d, s', rl, hf, k⟩ := q
  cases hf
  exact k [] H (Kq.refl _ _ _) rl .nil
theorem lift_callM {K : PySem.W.Frag} {m : List PyData → List PyData → Option (PyData × List PyData)} {i : Nat} {σ : L2.St} {H : Hp} {Q : VK} (h : lft K Z (dCallM m i ga) σ H Q) : tCall (spM K m) [] E (tCons (tVar i) (lfA K Z ga)) σ H Q := by
  obtain ⟨M, s, d, s', rl, hf, k⟩ := h
  unfold dCallM at hf
  simp only [Option.bind_eq_some_iff, Option.map_eq_some_iff] at hf
  obtain ⟨pd0, h0, ⟨ds, s1⟩, h1, pd, h2, ⟨d1, pd1⟩, h3, h4⟩ := hf
  cases h4
  obtain ⟨a0, xs0, g1, _⟩ := rl.at h0
  refine ⟨.ref a0, g1, M, s, ds, s1, rl, h1, fun vs H1 k1 r1 t1 => ?_⟩
  show spM K m ((V.ref a0 :: vs) ++ []) H1 Q E
  rw [List.append_nil]
  obtain ⟨a1, xs, e1, e2, e3, e4, e5⟩ := r1.at h2
  rw [g1] at e1
  cases e1
  refine ⟨Mu Z M, a0, xs, pd, vs, ds, _, pd1, rfl, e4, r1.muT, e2, e3, t1, h3, fun v H2 xs2 g2 g3 t2 t3 => ?_⟩
  obtain ⟨r2, k2⟩ := e5 H2 xs2 pd1 g3 g2 t2
  exact k v H2 (k1.trans k2) r2 t3
/-- f(x, ..), x a list that f may change -/
theorem dcallM {m : List PyData → List PyData → Option (PyData × List PyData)} (i : Nat) (F : FnOk X.prog X.w X.K X.mg X.base CX0 k f fd ps (spM X.K m)) (hr : Room k X.A) (hg : Gl X x) (hm : X.mg x = some (.ref f)) (hk : PySem.W.keepIn X.K (.ref f) = true) (hb : Binds X.K fd ps []) (h1 : PE X e (tVar i)) (ha : PA X es (lfA X.K Z ga)) (hx : Passes CX0 X E0 := by exact pass0)
    (hdb : (x == ("__debug__" : Str)) = false := by decide) (he : starEach (e :: es) X.env = (false, eval e X.env) :: starEach es X.env := by rfl) (hpl : (backTo pos (starEach es X.env)).any (·.1) = false := by rfl) :
    PE X (.Call (.Name x p) (e :: es) [] pos) (lft X.K Z (dCallM m i ga)) := PEimp (pe_call F hr hg hm hk hb .nil hx (pa_cons h1 ha he) hdb he hpl) fun _ _ _ h => lift_callM h
/-- .. of a function that makes a list of its own -/
theorem fcall {m : List PyData → Option (List PyData)} (F : FnOk X.prog X.w X.K X.mg X.base CX0 k f fd ps (spF X.K m)) (hr : Room k X.A) (hg : Gl X x) (hm : X.mg x = some (.ref f)) (hk : PySem.W.keepIn X.K (.ref f) = true) (hb : Binds X.K fd ps []) (ha : PA X (e :: es) (lfA X.K Z ga)) (hx : Passes CX0 X E0 := by exact pass0)
    (hdb : (x == ("__debug__" : Str)) = false := by decide) (he : starEach (e :: es) X.env = (false, eval e X.env) :: starEach es X.env := by rfl) (hpl : (backTo pos (starEach es X.env)).any (·.1) = false := by rfl) :
    PE X (.Call (.Name x p) (e :: es) [] pos) (lfF X.K Z (fCall m ga)) := PEimp (pe_call F hr hg hm hk hb .nil hx ha hdb he hpl) fun σ H Q h => by
  obtain ⟨M, s, d, s', rl, hf, k⟩ := h
  unfold fCall at hf
  simp only [Option.bind_eq_some_iff, Option.map_eq_some_iff] at hf
  obtain ⟨⟨ds, s1⟩, h1, d1, h2, h3⟩ := hf
  cases h3
  refine ⟨M, s, ds, _, rl, h1, fun vs H1 k1 r1 t1 => ?_⟩
  show spF X.K m (vs ++ []) H1 Q E0
  rw [List.append_nil]
  refine ⟨Mu Z M, ds, _, r1.muT, t1, h2, fun q xs H2 hq g2 g3 t2 => ?_⟩
  have hq0 : H q = none := by
    cases w : H q with
    | none => rfl
    | some o =>
      by_cases m : Mu Z M q
      · obtain ⟨u, e⟩ := r1.muT q m
        rw [hq] at e; cases e
      · have := (k1.kp q o w m).1
        rw [hq] at this; cases this
  have kp2 : Kp (fun a => Mu Z M a ∨ a = q) H2 (Mu (Z.add q) M) H2 := fun a o e n => ⟨e, fun z => n (mu_add.mp z)⟩
  -- the state behind: all stood ahead of q
  have r2 : Rel X.K (Z.add q) M σ H2 s1 := by
    have kq : Kp (Mu Z M) H1 (Mu (Z.add q) M) H2 := fun a o e n => ⟨g2 a o e, fun z => (mu_add.mp z).elim n (ne_of_none e hq)⟩
    refine ⟨fun a o e n => g2 a o (r1.base a o e n), fun a ha => ?_, fun a ha => ?_, fun a ha => let ⟨o, e⟩ := r1.pt a ha; ⟨o, g2 a o e⟩, ?_⟩
    · obtain ⟨f1, f2, f3, o, f4⟩ := r1.fr a ha
      exact ⟨f1, f2, fun z => z.elim f3 (ne_of_none f4 hq), o, g2 a o f4⟩
    · rcases ha with ha | ha
      · obtain ⟨o, e⟩ := r1.mz a ha
        exact ⟨o, g2 a o e⟩
      · rw [ha]; exact ⟨_, g3⟩
    · exact r1.sl.kp kq (M := M) (fun a xs _ e => g2 _ _ e) (fun a xs _ e => g2 _ _ e) (fun _ h => h)
  exact k q xs H2 hq0 g3 (k1.trans (kq_grow g2)) r2 (t2.mono kp2)
end

/-! ### defs -/
def startS (N : List Str) (ds : List PyData) : Sl := ds.map SV.dat ++ List.replicate (N.length - ds.length) .no
def startM (N : List Str) (pd ds : List PyData) : Sl := SV.pot 0 pd :: (ds.map SV.dat ++ List.replicate (N.length - 1 - ds.length) .no)
def outP : Option Fl → Option PyData
  | some (.rt d _) => some d
  | some (.nx _) => some .none
  | _ => none
def potOf : Option SV → Option (List PyData)
  | some (.pot 0 pd) => some pd
  | _ => none
theorem potOf_eq {x : Option SV} {pd : List PyData} (h : potOf x = some pd) : x = some (.pot 0 pd) := by
  unfold potOf at h
  split at h
  · cases h; rfl
  · cases h
def outM : Option Fl → Option (PyData × List PyData)
  | some (.rt d s) => (potOf s[0]?).map fun pd => (d, pd)
  | some (.nx s) => (potOf s[0]?).map fun pd => (.none, pd)
  | _ => none
/-- the meaning of a def by its body's -/
def fnP (N : List Str) (n : Nat) (b : DS) : List PyData → Option PyData := fun ds => if ds.length = n then outP (b (startS N ds)) else none
def fnM (N : List Str) (n : Nat) (b : DS) : List PyData → List PyData → Option (PyData × List PyData) := fun pd ds => if ds.length + 1 = n then outM (b (startM N pd ds)) else none
section
variable {P : Program} {w : World} {K : PySem.W.Frag} {mg : Str → Option Value} {base : Heap}
theorem slAll_nos {mu : Addr → Prop} {q : List Addr} {H : Hp} : ∀ n : Nat, SlAll K mu q H (List.replicate n none) (List.replicate n .no) []
  | 0 => .nil
  | n + 1 => .no (slAll_nos n)
theorem slAll_start {mu : Addr → Prop} {q : List Addr} {H : Hp} (n : Nat) : ∀ {vs : List V} {ds : List PyData}, DtAll K mu H vs ds → SlAll K mu q H (vs.map some ++ List.replicate n none) (ds.map SV.dat ++ List.replicate n .no) []
  | _, _, .nil => slAll_nos n
  | _, _, .cons h t => .dat h (slAll_start n t)
/-- a def of data -/
theorem okP {x qual : Str} {st : Stmt} {f : Addr} {fd : FuncData} {N ps : List Str} {k : Nat} {b : DS} (F : Fun K x qual st f fd) (S : FnScope N ps (defScope st))
    (hb : ∀ (cdv : Value) (A : Around) (outer : List Env) (s : Shared) (H : Hp) (E : XK) (Z : Par), Room k (A.deeper (envOfC qual (defScope st) s.heap.objs.size f cdv)) → PSs (cxOf CX0 P w K mg base N qual (defScope st) f cdv A outer s H E).nox (defBody st) (lfS K Z b)) :
    FnOk P w K mg base CX0 (k + 1) f fd ps (spP K (fnP N ps.length b)) := by
  refine F.ok S (fun vs H Q E h => ?_) (fun cdv A outer s H vs Q E hr h => ?_)
  · obtain ⟨mu, ds, d, h1, h2, h3, h4⟩ := h
    unfold fnP at h3
    split at h3
    · rename_i hl
      rw [h2.len]; exact hl
    · cases h3
  · obtain ⟨mu, ds, d, h1, h2, h3, h4⟩ := h
    unfold fnP at h3
    split at h3
    case isFalse => cases h3
    rename_i hl
    let Z : Par := ⟨H, [], mu, .nil⟩
    refine ⟨_, hb cdv A outer s H E Z hr, [], startS N ds, ?_⟩
    have muE : ∀ a, Mu Z [] a → mu a := fun a q => by
      rcases q with q | q | q
      · exact q
      · cases q
      · cases q
    have r : Rel K Z [] (start N vs) H (startS N ds) := by
      refine ⟨fun a o e _ => e, fun a ha => (by cases ha), h1, fun a ha => (by cases ha), ?_⟩
      unfold startS L2.start
      rw [h2.len]
      exact slAll_start _ (h2.mono fun a o e n => ⟨e, fun z => n (muE a z)⟩)
    unfold outP at h3
    split at h3
    · rename_i d1 s1 hq
      cases h3
      refine ⟨_, r, hq, fun M σ H1 v k1 r1 t1 => h4 v H1 (fun a o e => r1.base a o e (fun z => by cases z)) (t1.mono fun a o e n => ⟨e, fun z => n (.inl z)⟩)⟩
    · rename_i s1 hq
      cases h3
      refine ⟨_, r, hq, fun M σ H1 k1 r1 => h4 _ H1 (fun a o e => r1.base a o e (fun z => by cases z)) .non⟩
    · cases h3
/-- a def that changes the list handed in first -/
theorem okM {x qual : Str} {st : Stmt} {f : Addr} {fd : FuncData} {N ps : List Str} {k : Nat} {b : DS} (F : Fun K x qual st f fd) (S : FnScope N ps (defScope st))
    (hb : ∀ (cdv : Value) (A : Around) (outer : List Env) (s : Shared) (H : Hp) (E : XK) (Z : Par), Room k (A.deeper (envOfC qual (defScope st) s.heap.objs.size f cdv)) → PSs (cxOf CX0 P w K mg base N qual (defScope st) f cdv A outer s H E).nox (defBody st) (lfS K Z b)) :
    FnOk P w K mg base CX0 (k + 1) f fd ps (spM K (fnM N ps.length b)) := by
  refine F.ok S (fun vs H Q E h => ?_) (fun cdv A outer s H vs Q E hr h => ?_)
  · obtain ⟨mu, p, xs, pd, rest, ds, d, pd', rfl, h0, h1, h2, h3, h4, h5, h6⟩ := h
    unfold fnM at h5
    split at h5
    · rename_i hl
      rw [List.length_cons, h4.len]; exact hl
    · cases h5
  · obtain ⟨mu, p, xs, pd, rest, ds, d, pd', rfl, h0, h1, h2, h3, h4, h5, h6⟩ := h
    unfold fnM at h5
    split at h5
    case isFalse => cases h5
    rename_i hl
    let Z : Par := ⟨H, [p], mu, by simp⟩
    refine ⟨_, hb cdv A outer s H E Z hr, [], startM N pd ds, ?_⟩
    have muE : ∀ a, Mu Z [] a → mu a := fun a q => by
      rcases q with q | q | q
      · exact q
      · rw [List.mem_singleton.mp q]; exact h0
      · cases q
    have kk : Kp mu H (Mu Z []) H := fun a o e n => ⟨e, fun z => n (muE a z)⟩
    have r : Rel K Z [] (start N (.ref p :: rest)) H (startM N pd ds) := by
      refine ⟨fun a o e _ => e, fun a ha => (by cases ha), h1, fun a ha => ⟨_, List.mem_singleton.mp ha ▸ h2⟩, ?_⟩
      unfold startM L2.start
      have e : N.length - (V.ref p :: rest).length = N.length - 1 - ds.length := by rw [List.length_cons, h4.len]; omega
      rw [e]
      exact .pot rfl h2 (h3.mono kk) (slAll_start _ (h4.mono kk))
    have fin : ∀ {M : List Addr} {σ : L2.St} {H1 : Hp} {s1 : Sl} {pd1 : List PyData}, Rel K Z M σ H1 s1 → s1[0]? = some (.pot 0 pd1) → ∃ xs1, H1 p = some (.lst xs1) ∧ DtAll K mu H1 xs1 pd1 := fun {M σ H1 s1 pd1} r1 e => by
      obtain ⟨a, xs1, _, e2, e3, e4⟩ := r1.sl.getPot e
      cases e2
      exact ⟨xs1, e3, e4.mono fun a o e n => ⟨e, fun z => n (.inl z)⟩⟩
    have bs : ∀ {M : List Addr} {σ : L2.St} {H1 : Hp} {s1 : Sl}, Rel K Z M σ H1 s1 → ∀ a o, H a = some o → a ≠ p → H1 a = some o := fun r1 a o e n => r1.base a o e (fun z => n (List.mem_singleton.mp z))
    unfold outM at h5
    split at h5
    · rename_i d1 s1 hq
      simp only [Option.map_eq_some_iff] at h5
      obtain ⟨pd1, hp, h5⟩ := h5
      cases h5
      refine ⟨_, r, hq, fun M σ H1 v k1 r1 t1 => ?_⟩
      obtain ⟨xs1, e1, e2⟩ := fin r1 (potOf_eq hp)
      exact h6 v H1 xs1 (bs r1) e1 e2 (t1.mono fun a o e n => ⟨e, fun z => n (.inl z)⟩)
    · rename_i s1 hq
      simp only [Option.map_eq_some_iff] at h5
      obtain ⟨pd1, hp, h5⟩ := h5
      cases h5
      refine ⟨_, r, hq, fun M σ H1 k1 r1 => ?_⟩
      obtain ⟨xs1, e1, e2⟩ := fin r1 (potOf_eq hp)
      exact h6 _ H1 xs1 (bs r1) e1 e2 .non
    · cases h5
end
end Dl

namespace PySem.SeqAt
open AutoSeq1 (wpAny_loadPart')
open MeetsSeq MeetsSeq2 MeetsSeq3 SeqRoads2
theorem dict_declines_str (l : Addr) (o : Obj) (b : Str) (u : Tok) :
    Meets (Builtin.«dict.__eq__» ⟨[.ref l, .str b u], []⟩) (fun _ R s => (s.heap.get? l = some o ∧ o.cls = .type "dict") ∧ R (.ok (.ret .notImplemented)) s) :=
  .of_wp fun prog w A R s h => by
    obtain ⟨hp, g, d, tk, os⟩ := s
    obtain ⟨⟨hl, hc⟩, h⟩ := h
    obtain ⟨cls, dd, dt, sl⟩ := o
    simp only at hc
    subst hc
    have f1 := F.sub_str_dict
    wp_walk using wpAny_loadPart' hl, wpAny_load hl
    exact ⟨_, rfl, h⟩
theorem str_declines_dict (b : Str) (u : Tok) (l : Addr) (o : Obj) :
    Meets (Builtin.«str.__eq__» ⟨[.str b u, .ref l], []⟩) (fun _ R s => (s.heap.get? l = some o ∧ ∃ es ep, o.data = .dict es ep) ∧ R (.ok (.ret .notImplemented)) s) :=
  .of_wp fun prog w A R s h => by
    obtain ⟨hp, g, d, tk, os⟩ := s
    obtain ⟨⟨hl, es, ep, hd⟩, h⟩ := h
    obtain ⟨cls, dd, dt, sl⟩ := o
    simp only at hd
    subst hd
    wp_walk using wpAny_loadPart' hl, wpAny_load hl
    exact ⟨_, rfl, h⟩
section
variable {A : Around} {s : Shared}
def IsD (h : Heap) (l : Addr) : Prop := ∃ o, h.get? l = some o ∧ o.cls = .type "dict" ∧ ∃ es ep, o.data = .dict es ep
theorem RcAt.dict_str {l : Addr} (b : Str) (u : Tok) (hl : IsD s.heap l) (hu : A.units < cLine) : RcAt A s (.ref l) (.str b u) false := fun prog w E Q h => by
  obtain ⟨o, ho, hc, hd⟩ := hl
  exact rc_eq_decline_or (k := false) ⟨_, ho, hc⟩ (typeIs_str s b u) (by decide) F.sub_str_dict F.slot_dict_eq F.slot_str_eq_refl
    (fun _ hq => call_meets F.slot_dict_eq ⟨_, ho, hc⟩ F.entry_dict_eq (F.args_dict_eq_2 _ _) (dict_declines_str l o b u) ⟨⟨ho, hc⟩, hq⟩)
    (fun _ hq => call_meets F.slot_str_eq_refl (typeIs_str s b u) F.entry_str_eq (F.args_str_eq_2 _ _) (str_declines_dict b u l o) ⟨⟨ho, hd⟩, hq⟩)
    (fun _ hq => wpAny_of_eq (rfl : isSame (.ref l) (.str b u) = pure false) hq) (.inr hu) h
theorem EqAt.dict_str {l : Addr} (b : Str) (u : Tok) (hl : IsD s.heap l) (hu : A.units < cLine) : EqAt A s (.ref l) (.str b u) false := fun prog w E Q h => by
  unfold eqBool
  refine wpAny_holding ?_
  refine wpAny_ite_split (fun hab => absurd (eq_of_beq hab) nofun) (fun _ => ?_)
  exact wpAny_bind (RcAt.dict_str b u hl hu prog w E _ (wpAny_truthy_bool h))
theorem RcAt.str_dict {l : Addr} (b : Str) (u : Tok) (hl : IsD s.heap l) (hu : A.units < cLine) : RcAt A s (.str b u) (.ref l) false := fun prog w E Q h => by
  obtain ⟨o, ho, hc, hd⟩ := hl
  exact rc_eq_decline_or (k := false) (typeIs_str s b u) ⟨_, ho, hc⟩ (by decide) F.sub_dict_str F.slot_str_eq F.slot_dict_eq_refl
    (fun _ hq => call_meets F.slot_str_eq (typeIs_str s b u) F.entry_str_eq (F.args_str_eq_2 _ _) (str_declines_dict b u l o) ⟨⟨ho, hd⟩, hq⟩)
    (fun _ hq => call_meets F.slot_dict_eq_refl ⟨_, ho, hc⟩ F.entry_dict_eq (F.args_dict_eq_2 _ _) (dict_declines_str l o b u) ⟨⟨ho, hc⟩, hq⟩)
    (fun _ hq => wpAny_of_eq (rfl : isSame (.str b u) (.ref l) = pure false) hq) (.inr hu) h
theorem EqAt.str_dict {l : Addr} (b : Str) (u : Tok) (hl : IsD s.heap l) (hu : A.units < cLine) : EqAt A s (.str b u) (.ref l) false := fun prog w E Q h => by
  unfold eqBool
  refine wpAny_holding ?_
  refine wpAny_ite_split (fun hab => absurd (eq_of_beq hab) nofun) (fun _ => ?_)
  exact wpAny_bind (RcAt.str_dict b u hl hu prog w E _ (wpAny_truthy_bool h))
end
end PySem.SeqAt

namespace Dl
open PySem PySem.Spec PyProof.Rows L2

/-! ### operators on trees -/
def gAdd : PyData → PyData → Option PyData
  | .int a, .int b => some (.int (a + b))
  | .str a, .str b => if a.length + b.length ≤ sizeLine then some (.str (a ++ b)) else none
  | .tuple a, .tuple b => if a.length + b.length ≤ sizeLine then some (.tuple (a ++ b)) else none
  | .list a, .list b => if a.length + b.length ≤ sizeLine then some (.list (a ++ b)) else none
  | _, _ => none
def gInt (g : Int → Int → Option Int) : PyData → PyData → Option PyData
  | .int a, .int b => (g a b).map .int
  | _, _ => none
def gSub : PyData → PyData → Option PyData := gInt fun a b => some (a - b)
def gMul : PyData → PyData → Option PyData := gInt fun a b => if (a.natAbs.log2 + b.natAbs.log2 < 1000000) then some (a * b) else none
def gDiv : PyData → PyData → Option PyData := gInt fun a b => if (0 < b ∧ b.natAbs.log2 < 9000) then some (a / b) else none
def gMod : PyData → PyData → Option PyData := gInt fun a b => if 0 < b then some (a % b) else none
def gPow : PyData → PyData → Option PyData := gInt fun a b => if 0 ≤ b ∧ ((a.natAbs.log2 + 1 : Nat) : Int) * b ≤ 2 ^ 27 then some (a ^ b.toNat) else none
def gCmpI (p : Int → Int → Bool) : PyData → PyData → Option PyData
  | .int a, .int b => some (.bool (p a b))
  | _, _ => none
def gLe : PyData → PyData → Option PyData
  | .int a, .int b => some (.bool (decide (a ≤ b)))
  | .str a, .str b => some (.bool (!decide (b.cps.toList < a.cps.toList)))
  | _, _ => none
def gLt : PyData → PyData → Option PyData
  | .int a, .int b => some (.bool (decide (a < b)))
  | .str a, .str b => some (.bool (decide (a.cps.toList < b.cps.toList)))
  | _, _ => none
def gGe : PyData → PyData → Option PyData := gCmpI fun a b => decide (b ≤ a)
def gGt : PyData → PyData → Option PyData := gCmpI fun a b => decide (b < a)

section
variable {X : Cx} {K : PySem.W.Frag}
theorem gInt_some {g : Int → Int → Option Int} {d1 d2 d : PyData} (h : gInt g d1 d2 = some d) : ∃ a b c, d1 = .int a ∧ d2 = .int b ∧ g a b = some c ∧ d = .int c := by
  unfold gInt at h
  split at h
  · simp only [Option.map_eq_some_iff] at h
    obtain ⟨c, h1, h2⟩ := h
    exact ⟨_, _, c, rfl, rfl, h1, h2.symm⟩
  · cases h
theorem okI {C : Int → Int → Prop} {g : Int → Int → Int} {g' : Int → Int → Option Int} (h : ∀ a b c, g' a b = some c → C a b ∧ c = g a b) : OpOk K (rI C fun i j => .int (g i j)) (gInt g') := fun mu H x y d1 d2 d Q hm t1 t2 e k => by
  obtain ⟨a, b, c, rfl, rfl, e1, rfl⟩ := gInt_some e
  obtain ⟨h1, rfl⟩ := h a b c e1
  exact ⟨a, b, t1.inti, t2.inti, h1, k _ H (fun _ _ z => z) (.int _)⟩
theorem okI0 {g : Int → Int → Int} {g' : Int → Int → Option Int} (h : ∀ a b c, g' a b = some c → c = g a b) : OpOk K (rI0 fun i j => .int (g i j)) (gInt g') := fun mu H x y d1 d2 d Q hm t1 t2 e k => by
  obtain ⟨a, b, c, rfl, rfl, e1, rfl⟩ := gInt_some e
  have := h a b c e1
  subst this
  exact ⟨a, b, t1.inti, t2.inti, k _ H (fun _ _ z => z) (.int _)⟩
theorem okB0 {p : Int → Int → Bool} : OpOk K (rI0 fun i j => .bl (p i j)) (gCmpI p) := fun mu H x y d1 d2 d Q hm t1 t2 e k => by
  unfold gCmpI at e
  split at e
  · cases e
    exact ⟨_, _, t1.inti, t2.inti, k _ H (fun _ _ z => z) (.bl _)⟩
  · cases e
theorem ok_sub : OpOk K (rI0 fun i j => .int (i - j)) gSub := okI0 fun a b c h => by cases h; rfl
theorem ok_mul : OpOk K (rI CMulW fun i j => .int (i * j)) gMul := okI fun a b c h => by
  split at h
  · cases h; exact ⟨by assumption, rfl⟩
  · cases h
theorem ok_div : OpOk K (rI CDivW fun i j => .int (i / j)) gDiv := okI fun a b c h => by
  split at h
  · cases h; exact ⟨by assumption, rfl⟩
  · cases h
theorem ok_mod : OpOk K (rI (fun _ j => 0 < j) fun i j => .int (i % j)) gMod := okI fun a b c h => by
  split at h
  · cases h; exact ⟨by assumption, rfl⟩
  · cases h
def CPowW (i j : Int) : Prop := 0 ≤ j ∧ ((i.natAbs.log2 + 1 : Nat) : Int) * j ≤ 2 ^ 27
theorem op_powW : OpR X (binaryOp .Pow) (rI CPowW fun i j => .int (i ^ j.toNat)) := opI fun i j _ _ _ _ _ hc q => pow_int hc.1 (by
  have e : Builtin.Int.intBits i ≤ i.natAbs.log2 + 1 := by
    unfold Builtin.Int.intBits
    split <;> omega
  have h1 : (Builtin.Int.intBits i : Int) ≤ ((i.natAbs.log2 + 1 : Nat) : Int) := Int.ofNat_le.mpr e
  exact Int.le_trans (Int.mul_le_mul_of_nonneg_right h1 hc.1) hc.2) q
theorem ok_pow : OpOk K (rI CPowW fun i j => .int (i ^ j.toNat)) gPow := okI fun a b c h => by
  split at h
  · cases h; exact ⟨by assumption, rfl⟩
  · cases h
theorem ok_ge : OpOk K (rI0 fun i j => .bl (decide (j ≤ i))) gGe := okB0
theorem ok_gt : OpOk K (rI0 fun i j => .bl (decide (j < i))) gGt := okB0
def rLeA : R2 := fun x y H Q => (∃ i j, x = .int i ∧ y = .int j ∧ Q (.bl (decide (i ≤ j))) H) ∨ ∃ i j, x = .str i ∧ y = .str j ∧ Q (.bl (!decide (j.cps.toList < i.cps.toList))) H
theorem op_leA : OpR X (compareOp .LtE) rLeA := OpR.or op_le op_le_str
theorem ok_le : OpOk K rLeA gLe := fun mu H x y d1 d2 d Q hm t1 t2 e k => by
  unfold gLe at e
  split at e
  · cases e; exact .inl ⟨_, _, t1.inti, t2.inti, k _ H (fun _ _ z => z) (.bl _)⟩
  · cases e; exact .inr ⟨_, _, t1.text, t2.text, k _ H (fun _ _ z => z) (.bl _)⟩
  · cases e
def rLtA : R2 := fun x y H Q => (∃ i j, x = .int i ∧ y = .int j ∧ Q (.bl (decide (i < j))) H) ∨ ∃ i j, x = .str i ∧ y = .str j ∧ Q (.bl (decide (i.cps.toList < j.cps.toList))) H
theorem op_ltA : OpR X (compareOp .Lt) rLtA := OpR.or op_lt op_lt_str
theorem ok_lt : OpOk K rLtA gLt := fun mu H x y d1 d2 d Q hm t1 t2 e k => by
  unfold gLt at e
  split at e
  · cases e; exact .inl ⟨_, _, t1.inti, t2.inti, k _ H (fun _ _ z => z) (.bl _)⟩
  · cases e; exact .inr ⟨_, _, t1.text, t2.text, k _ H (fun _ _ z => z) (.bl _)⟩
  · cases e
/-- + -/
def rCatR : R2 := fun x y H Q => ∃ l b xs zs, x = .ref l ∧ y = .ref b ∧ Rd H l (.lst xs) ∧ Rd H b (.lst zs) ∧ xs.length + zs.length ≤ sizeLine ∧ ∀ p, H p = none → Q (.ref p) (upd H p (.lst (xs ++ zs)))
theorem op_catR : OpR X (binaryOp .Add) rCatR := fun pins s σ H x y v u Q I rx ry ⟨l, b, xs, zs, ex, ey, h1, h2, hz, q⟩ => by
  subst ex ey
  cases rx
  cases ry
  obtain ⟨z1, its, n, r, e⟩ := h1.ok I.hok
  obtain ⟨z2, its2, n2, r2, e2⟩ := h2.ok I.hok
  have l1 := r.length
  have l2 := r2.length
  refine PySem.P.add_list e e2 ?_ (by rw [List.size_toArray, List.size_toArray]; omega)
  rw [show its.toArray ++ its2.toArray = (its ++ its2).toArray by simp]
  exact ⟨.ref _, _, I.lnew (t' := s.toks) (r.append r2) (by rw [List.length_append]; omega), rfl, q _ I.fresh⟩
def rAddA (K : PySem.W.Frag) : R2 := fun x y H Q => ((∃ i j, x = .int i ∧ y = .int j ∧ Q (.int (i + j)) H) ∨ ∃ i j, x = .str i ∧ y = .str j ∧ i.length + j.length ≤ sizeLine ∧ Q (.str (i ++ j)) H) ∨ (rCatA K x y H Q ∨ rCatR x y H Q)
theorem op_addA : OpR X (binaryOp .Add) (rAddA X.K) := OpR.or (OpR.or op_add op_add_str) (OpR.or op_catA op_catR)
theorem ok_add : OpOk K (rAddA K) gAdd := fun mu H x y d1 d2 d Q hm t1 t2 e k => by
  unfold gAdd at e
  split at e
  · cases e; exact .inl (.inl ⟨_, _, t1.inti, t2.inti, k _ H (fun _ _ z => z) (.int _)⟩)
  · split at e
    · cases e; exact .inl (.inr ⟨_, _, t1.text, t2.text, by assumption, k _ H (fun _ _ z => z) (.str _)⟩)
    · cases e
  · rename_i ds es
    split at e
    case isFalse => cases e
    rename_i hz
    cases e
    obtain ⟨a, xs, ea, h1, u1⟩ := t1.tuple
    obtain ⟨b, ys, eb, h2, u2⟩ := t2.tuple
    subst ea eb
    refine .inr (.inl ⟨a, b, xs, ys, rfl, rfl, h1, h2, by rw [u1.len, u2.len]; exact hz, fun hx => ?_, fun _ hy => ?_, fun _ _ p hp => ?_⟩)
    · subst hx
      cases u1
      exact k _ H (fun _ _ z => z) t2
    · subst hy
      cases u2
      rw [List.append_nil] at k
      exact k _ H (fun _ _ z => z) t1
    · exact k _ _ (grow_new hp) (dt_newT hm hp (u1.append u2))
  · rename_i ds es
    split at e
    case isFalse => cases e
    rename_i hz
    cases e
    obtain ⟨a, xs, ea, h1, u1⟩ := t1.listR
    obtain ⟨b, ys, eb, h2, u2⟩ := t2.listR
    subst ea eb
    exact .inr (.inr ⟨a, b, xs, ys, rfl, rfl, h1, h2, by rw [u1.len, u2.len]; exact hz, fun p hp => k _ _ (grow_new hp) (dt_newL hm hp (u1.append u2))⟩)
  · cases e

/-! ### an item, by its place -/
def gIx : PyData → PyData → Option PyData
  | .list ds, .int i => atI ds i
  | .tuple ds, .int i => atI ds i
  | .str x, .int i => if x.length ≤ sizeLine then (atI x.cps.toList i).map fun c => .str ⟨#[c]⟩ else none
  | .dict [(.none, .list ds)], .int i => atI ds i
  | _, _ => none
theorem ok_ix : OpOk K (rIx K) gIx := fun mu H x y d1 d2 d Q hm t1 t2 e k => by
  unfold gIx at e
  split at e
  · obtain ⟨a, xs, rfl, h1, u1⟩ := t1.list
    obtain ⟨v, e1, u2⟩ := atI_dt u1 e
    exact .inl ⟨a, xs, _, v, rfl, t2.inti, h1, e1, k _ H (fun _ _ z => z) u2⟩
  · obtain ⟨a, xs, rfl, h1, u1⟩ := t1.tuple
    obtain ⟨v, e1, u2⟩ := atI_dt u1 e
    exact .inr (.inl ⟨a, xs, _, v, rfl, t2.inti, h1, e1, k _ H (fun _ _ z => z) u2⟩)
  · split at e
    case isFalse => cases e
    rename_i hz
    simp only [Option.map_eq_some_iff] at e
    obtain ⟨c, e1, e2⟩ := e
    cases e2
    exact .inr (.inr ⟨_, _, c, t1.text, t2.inti, hz, e1, k _ H (fun _ _ z => z) (.str _)⟩)
  · obtain ⟨a, xs, rfl, h1, u1⟩ := t1.script
    obtain ⟨v, e1, u2⟩ := atI_dt u1 e
    exact .inl ⟨a, xs, _, v, rfl, t2.inti, h1, e1, k _ H (fun _ _ z => z) u2⟩
  · cases e

/-! ### built-ins -/
def gLen : List PyData → Option PyData
  | [.list ds] => some (.int ds.length)
  | [.tuple ds] => some (.int ds.length)
  | [.str x] => if x.length ≤ sizeLine then some (.int x.length) else none
  | [.dict [(.none, .list ds)]] => some (.int ds.length)
  | _ => none
theorem one_of {mu : Addr → Prop} {H : Hp} {xs : List V} {d : PyData} (t : DtAll K mu H xs [d]) : ∃ x, xs = [x] ∧ Dt K mu H x d := by
  cases t with
  | cons h r => cases r; exact ⟨_, rfl, h⟩
theorem two_of {mu : Addr → Prop} {H : Hp} {xs : List V} {d e : PyData} (t : DtAll K mu H xs [d, e]) : ∃ x y, xs = [x, y] ∧ Dt K mu H x d ∧ Dt K mu H y e := by
  cases t with
  | cons h r =>
    obtain ⟨y, rfl, h2⟩ := one_of r
    exact ⟨_, y, rfl, h, h2⟩
theorem ok_len : CallOk K (fun xs H Q => ∃ x n, xs = [x] ∧ LenV K x H n ∧ Q (.int n) H) gLen := fun mu H xs ds d Q hm t e k => by
  unfold gLen at e
  split at e
  · obtain ⟨x, rfl, t1⟩ := one_of t
    cases e
    obtain ⟨a, xs, rfl, h1, u1⟩ := t1.list
    exact ⟨_, _, rfl, .inl ⟨xs, h1, rfl⟩, by rw [u1.len]; exact k _ H (fun _ _ z => z) (.int _)⟩
  · obtain ⟨x, rfl, t1⟩ := one_of t
    cases e
    obtain ⟨a, xs, rfl, h1, u1⟩ := t1.tuple
    exact ⟨_, _, rfl, .inr ⟨xs, h1, rfl⟩, by rw [u1.len]; exact k _ H (fun _ _ z => z) (.int _)⟩
  · obtain ⟨x, rfl, t1⟩ := one_of t
    split at e
    case isFalse => cases e
    cases e
    exact ⟨_, _, rfl, (show LenV K x H _ by rw [t1.text]; exact ⟨by assumption, rfl⟩), k _ H (fun _ _ z => z) (.int _)⟩
  · obtain ⟨x, rfl, t1⟩ := one_of t
    cases e
    obtain ⟨a, xs, rfl, h1, u1⟩ := t1.script
    exact ⟨_, _, rfl, .inl ⟨xs, h1, rfl⟩, by rw [u1.len]; exact k _ H (fun _ _ z => z) (.int _)⟩
  · cases e
def gAbs : List PyData → Option PyData
  | [.int i] => some (.int (if i < 0 then -i else i))
  | _ => none
theorem ok_abs : CallOk K (fun xs H Q => ∃ i, xs = [.int i] ∧ Q (.int (if i < 0 then -i else i)) H) gAbs := fun mu H xs ds d Q hm t e k => by
  unfold gAbs at e
  split at e
  · obtain ⟨x, rfl, t1⟩ := one_of t
    cases e
    exact ⟨_, by rw [t1.inti], k _ H (fun _ _ z => z) (.int _)⟩
  · cases e
def gMax2 : List PyData → Option PyData
  | [.int i, .int j] => some (.int (if j > i then j else i))
  | _ => none
theorem ok_max2 : CallOk K (fun xs H Q => ∃ i j, xs = [.int i, .int j] ∧ Q (.int (if j > i then j else i)) H) gMax2 := fun mu H xs ds d Q hm t e k => by
  unfold gMax2 at e
  split at e
  · obtain ⟨x, y, rfl, t1, u⟩ := two_of t
    cases e
    exact ⟨_, _, by rw [t1.inti, u.inti], k _ H (fun _ _ z => z) (.int _)⟩
  · cases e
def gMin2 : List PyData → Option PyData
  | [.int i, .int j] => some (.int (if j < i then j else i))
  | _ => none
theorem ok_min2 : CallOk K (fun xs H Q => ∃ i j, xs = [.int i, .int j] ∧ Q (.int (if j < i then j else i)) H) gMin2 := fun mu H xs ds d Q hm t e k => by
  unfold gMin2 at e
  split at e
  · obtain ⟨x, y, rfl, t1, u⟩ := two_of t
    cases e
    exact ⟨_, _, by rw [t1.inti, u.inti], k _ H (fun _ _ z => z) (.int _)⟩
  · cases e
/-- int(..) of a number, of a truth -/
def gInt1 : List PyData → Option PyData
  | [.int i] => some (.int i)
  | [.bool b] => some (.int (if b then 1 else 0))
  | _ => none
theorem ok_int1 : CallOk K (fun xs H Q => (∃ i, xs = [.int i] ∧ Q (.int i) H) ∨ ∃ k, xs = [.bl k] ∧ Q (.int (if k then 1 else 0)) H) gInt1 := fun mu H xs ds d Q hm t e k => by
  unfold gInt1 at e
  split at e
  · obtain ⟨x, rfl, t1⟩ := one_of t
    cases e
    exact .inl ⟨_, by rw [t1.inti], k _ H (fun _ _ z => z) (.int _)⟩
  · obtain ⟨x, rfl, t1⟩ := one_of t
    cases e
    exact .inr ⟨_, by rw [t1.bool], k _ H (fun _ _ z => z) (.int _)⟩
  · cases e
/-- all, any of a list of truths -/
def truths : List PyData → Option (List Bool)
  | [] => some []
  | .bool b :: r => (truths r).map (b :: ·)
  | _ :: _ => none
theorem truths_map : ∀ {ds : List PyData} {bs : List Bool}, truths ds = some bs → ds = bs.map .bool
  | [], bs, h => by cases h; rfl
  | d :: r, bs, h => by
    unfold truths at h
    split at h
    · cases h; simp_all
    · rename_i b r' e
      simp only [Option.map_eq_some_iff] at h
      obtain ⟨bs', h1, h2⟩ := h
      injection e with e1 e2
      subst e1 e2 h2
      rw [List.map_cons, ← truths_map h1]
    · cases h
def gAll : List PyData → Option PyData
  | [.list ds] => (truths ds).map fun bs => .bool (bs.all id)
  | _ => none
theorem ok_all : CallOk K (rAll K) gAll := fun mu H xs ds d Q hm t e k => by
  unfold gAll at e
  split at e
  · obtain ⟨x, rfl, t1⟩ := one_of t
    simp only [Option.map_eq_some_iff] at e
    obtain ⟨bs, e1, e2⟩ := e
    cases e2
    obtain ⟨a, xs, rfl, h1, u1⟩ := t1.list
    rw [truths_map e1] at u1
    rw [u1.bools] at h1
    exact ⟨a, bs, rfl, h1, k _ H (fun _ _ z => z) (.bl _)⟩
  · cases e
def gAny : List PyData → Option PyData
  | [.list ds] => (truths ds).map fun bs => .bool (bs.any id)
  | _ => none
theorem ok_any : CallOk K (rAny K) gAny := fun mu H xs ds d Q hm t e k => by
  unfold gAny at e
  split at e
  · obtain ⟨x, rfl, t1⟩ := one_of t
    simp only [Option.map_eq_some_iff] at e
    obtain ⟨bs, e1, e2⟩ := e
    cases e2
    obtain ⟨a, xs, rfl, h1, u1⟩ := t1.list
    rw [truths_map e1] at u1
    rw [u1.bools] at h1
    exact ⟨a, bs, rfl, h1, k _ H (fun _ _ z => z) (.bl _)⟩
  · cases e
def gTuple : List PyData → Option PyData
  | [.list ds] => some (.tuple ds)
  | [.tuple ds] => some (.tuple ds)
  | _ => none
theorem ok_tuple : CallOk K (fun xs H Q => ∃ p ys, xs = [.ref p] ∧ ((SqL K H p ys ∧ ∀ l, H l = none → Q (.ref l) (upd H l (.tup ys))) ∨ (SqT K H p ys ∧ Q (.ref p) H))) gTuple := fun mu H xs ds d Q hm t e k => by
  unfold gTuple at e
  split at e
  · obtain ⟨x, rfl, t1⟩ := one_of t
    cases e
    obtain ⟨a, xs, rfl, h1, u1⟩ := t1.list
    exact ⟨a, xs, rfl, .inl ⟨h1, fun l hl => k _ _ (grow_new hl) (dt_newT hm hl u1)⟩⟩
  · obtain ⟨x, rfl, t1⟩ := one_of t
    cases e
    obtain ⟨a, xs, e1, h1, u1⟩ := t1.tuple
    subst e1
    exact ⟨a, xs, rfl, .inr ⟨h1, k _ H (fun _ _ z => z) t1⟩⟩
  · cases e
def gList : List PyData → Option PyData
  | [.list ds] => some (.list ds)
  | [.tuple ds] => some (.list ds)
  | _ => none
theorem ok_list : CallOk K (fun xs H Q => ∃ p ys, xs = [.ref p] ∧ (SqL K H p ys ∨ SqT K H p ys) ∧ ∀ l, H l = none → Q (.ref l) (upd H l (.lst ys))) gList := fun mu H xs ds d Q hm t e k => by
  unfold gList at e
  split at e
  · obtain ⟨x, rfl, t1⟩ := one_of t
    cases e
    obtain ⟨a, xs, rfl, h1, u1⟩ := t1.list
    exact ⟨a, xs, rfl, .inl h1, fun l hl => k _ _ (grow_new hl) (dt_newL hm hl u1)⟩
  · obtain ⟨x, rfl, t1⟩ := one_of t
    cases e
    obtain ⟨a, xs, rfl, h1, u1⟩ := t1.tuple
    exact ⟨a, xs, rfl, .inr h1, fun l hl => k _ _ (grow_new hl) (dt_newL hm hl u1)⟩
  · cases e
end
end Dl

namespace Dl
open PySem PySem.Spec PyProof.Rows L2

/-! ### == with a text, in among texts -/
/-- what may stand beside a text -/
def Okv (K : PySem.W.Frag) (H : Hp) (x : V) : Prop := flatV x = true ∨ ∃ a, x = .ref a ∧ ((∃ xs, SqL K H a xs) ∨ (∃ xs, SqT K H a xs) ∨ ∃ kvs, H a = some (.dK kvs))
def isTx (z : Str) : V → Bool
  | .str y => y == z
  | _ => false
section
variable {X : Cx} {K : PySem.W.Frag} {pins : List (Addr × Obj)} {σ : L2.St} {H : Hp} {s : Shared}
theorem isD_of (I : Inv X pins σ H s) {a : Addr} {kvs : List (Key × V)} (h : H a = some (.dK kvs)) : SeqAt.IsD s.heap a := by
  obtain ⟨_, _, vs, _, o, es, ep, h1, h2, h3, _⟩ := (show ObjOk X.prog X.w H s.heap a (.dK kvs) from I.hok a _ h)
  exact ⟨o, h1, h2.1, es, ep, h3⟩
theorem eq_text1 (I : Inv X pins σ H s) {A : Around} (hu : A.units < cLine) {x : V} {v : Value} {z : Str} {t : Tok} (rx : RelV x v) (h : Okv X.K H x) : SeqAt.EqAt A s v (.str z t) (isTx z x) := by
  rcases h with h | ⟨a, rfl, h⟩
  · have e := eqAt_V (A := A) (s := s) (y := x) (x := .str z) (u := v) (v := .str z t) rx ⟨t, rfl⟩ h rfl
    have e2 : eqV x (.str z) = isTx z x := by cases x <;> rfl
    rw [e2] at e; exact e
  · cases rx
    rcases h with ⟨xs, h⟩ | ⟨xs, h⟩ | ⟨kvs, h⟩
    · obtain ⟨its, r, p, _⟩ := I.list h
      exact SeqAt.EqAt.list_str z t p.isList hu
    · obtain ⟨its, r, p, _⟩ := I.tuple h
      exact SeqAt.EqAt.tuple_str z t p hu
    · exact SeqAt.EqAt.dict_str z t (isD_of I h) hu
theorem eq_text2 (I : Inv X pins σ H s) {A : Around} (hu : A.units < cLine) {x : V} {v : Value} {z : Str} {t : Tok} (rx : RelV x v) (h : Okv X.K H x) : SeqAt.EqAt A s (.str z t) v (isTx z x) := by
  rcases h with h | ⟨a, rfl, h⟩
  · have e := eqAt_V (A := A) (s := s) (y := .str z) (x := x) (u := .str z t) (v := v) ⟨t, rfl⟩ rx rfl h
    have e2 : eqV (.str z) x = isTx z x := by
      cases x <;> first | rfl | skip
      rename_i y
      show (z == y) = (y == z)
      rw [Bool.eq_iff_iff, beq_iff_eq, beq_iff_eq]
      exact ⟨Eq.symm, Eq.symm⟩
    rw [e2] at e; exact e
  · cases rx
    rcases h with ⟨xs, h⟩ | ⟨xs, h⟩ | ⟨kvs, h⟩
    · obtain ⟨its, r, p, _⟩ := I.list h
      exact SeqAt.EqAt.str_list z t p.isList hu
    · obtain ⟨its, r, p, _⟩ := I.tuple h
      exact SeqAt.EqAt.str_tuple z t p hu
    · exact SeqAt.EqAt.str_dict z t (isD_of I h) hu
end
section
variable {X : Cx} {K : PySem.W.Frag}
def rEqS (K : PySem.W.Frag) : R2 := fun x y H Q => ∃ z, y = .str z ∧ Okv K H x ∧ Q (.bl (isTx z x)) H
theorem op_eqS (hu : X.A.units + 1 < cLine) : OpR X (compareOp .Eq) (rEqS X.K) := fun pins s σ H x y v u Q I rx ry ⟨z, ey, ok, q⟩ => by
  subst ey
  obtain ⟨t, rfl⟩ := ry
  rcases ok with h | ⟨a, rfl, h⟩
  · refine op_eq pins s σ H x (.str z) v (.str z t) Q I rx ⟨t, rfl⟩ ⟨?_, ?_⟩
    · cases x <;> first | rfl | cases h
    · have e : decide (x = .str z) = isTx z x := by
        cases x <;> first | rfl | (cases h; done) | skip
        rw [dec_str]
        rfl
      rw [e]; exact q
  · cases rx
    have fin : EP X pins σ Q (.bool false) s := ⟨.bl false, H, I, rfl, q⟩
    rcases h with ⟨xs, h⟩ | ⟨xs, h⟩ | ⟨kvs, h⟩
    · obtain ⟨its, r, p, _⟩ := I.list h
      exact SeqAt.RcAt.list_str z t p.isList (by omega) X.prog X.w _ _ fin
    · obtain ⟨its, r, p, _⟩ := I.tuple h
      exact SeqAt.RcAt.tuple_str z t p (by omega) X.prog X.w _ _ fin
    · exact SeqAt.RcAt.dict_str z t (isD_of I h) (by omega) X.prog X.w _ _ fin
/-- the answer for an item that is a text -/
def txU (x : V) (u : Value) : Bool := match u with
  | .str z _ => isTx z x
  | _ => false
theorem any_txU {x : V} : ∀ {zs : List Str} {us : List Value}, Vals (zs.map V.str) us → us.any (txU x) = zs.any fun z => isTx z x
  | [], _, .nil => rfl
  | z :: zs, _, .cons r t => by
    obtain ⟨k, rfl⟩ := r
    rw [List.any_cons, List.any_cons, any_txU t]
    rfl
theorem mem_txU {pins : List (Addr × Obj)} {σ : L2.St} {H : Hp} {s : Shared} (I : Inv X pins σ H s) {A : Around} (hu : A.units < cLine) {x : V} {v : Value} (rx : RelV x v) (ok : Okv X.K H x) : ∀ {zs : List Str} {us : List Value}, Vals (zs.map V.str) us → ∀ u ∈ us, SeqAt.EqAt A s u v (txU x u)
  | [], _, .nil => fun u hu => by cases hu
  | z :: zs, _, .cons r t => fun u' hm => by
    rcases List.mem_cons.mp hm with e | hm
    · obtain ⟨k, e2⟩ := r
      rw [e, e2]
      exact eq_text2 I hu rx ok
    · exact mem_txU I hu rx ok t u' hm
def rInTx (K : PySem.W.Frag) (neg : Bool) : R2 := fun x y H Q => ∃ p, ∃ zs : List Str, y = .ref p ∧ (SqL K H p (zs.map V.str) ∨ SqT K H p (zs.map V.str)) ∧ Okv K H x ∧ Q (.bl (if neg then !(zs.any fun z => isTx z x) else zs.any fun z => isTx z x)) H
theorem op_inTx (hu : X.A.units + 1 < cLine) : OpR X (compareOp .In) (rInTx X.K false) := fun pins s σ H x y v u Q I rx ry ⟨p, zs, ey, hq, ok, q⟩ => by
  subst ey
  cases ry
  have hu1 : X.A.in1.units < cLine := hu
  rcases hq with hq | hq
  · obtain ⟨its, r, pl, _⟩ := I.list hq
    refine SeqAt.in_listAt (txU x) pl.isList (fun w hw => mem_txU I hu1 rx ok r w (by simpa using hw)) ⟨.bl _, H, I, rfl, ?_⟩
    rw [show its.toArray.any (txU x) = its.any (txU x) by simp, any_txU r]; exact q
  · obtain ⟨its, r, pl, _⟩ := I.tuple hq
    refine SeqAt.in_tupleAt (txU x) pl (fun w hw => mem_txU I hu1 rx ok r w (by simpa using hw)) ⟨.bl _, H, I, rfl, ?_⟩
    rw [show its.toArray.any (txU x) = its.any (txU x) by simp, any_txU r]; exact q
theorem op_notInTx (hu : X.A.units + 1 < cLine) : OpR X (compareOp .NotIn) (rInTx X.K true) := fun pins s σ H x y v u Q I rx ry ⟨p, zs, ey, hq, ok, q⟩ => by
  subst ey
  cases ry
  have hu1 : X.A.in1.units < cLine := hu
  rcases hq with hq | hq
  · obtain ⟨its, r, pl, _⟩ := I.list hq
    refine SeqAt.notIn_listAt (txU x) pl.isList (fun w hw => mem_txU I hu1 rx ok r w (by simpa using hw)) ⟨.bl _, H, I, rfl, ?_⟩
    rw [show its.toArray.any (txU x) = its.any (txU x) by simp, any_txU r]; exact q
  · obtain ⟨its, r, pl, _⟩ := I.tuple hq
    refine SeqAt.notIn_tupleAt (txU x) pl (fun w hw => mem_txU I hu1 rx ok r w (by simpa using hw)) ⟨.bl _, H, I, rfl, ?_⟩
    rw [show its.toArray.any (txU x) = its.any (txU x) by simp, any_txU r]; exact q
end
/-- neither the script nor what holds it -/
def plainD : PyData → Bool
  | .dict kvs => realD kvs
  | _ => true
section
variable {X : Cx} {K : PySem.W.Frag} {mu : Addr → Prop} {H : Hp}
theorem okv_of {v : V} {d : PyData} (t : Dt K mu H v d) (r : plainD d = true) : Okv K H v := by
  cases t with
  | lst h _ _ => exact .inr ⟨_, rfl, .inl ⟨_, .inl h⟩⟩
  | scr _ _ => cases r
  | tup h _ _ => exact .inr ⟨_, rfl, .inr (.inl ⟨_, .inl (.inl h)⟩)⟩
  | tupK h _ _ => exact .inr ⟨_, rfl, .inr (.inl ⟨_, h H⟩)⟩
  | dct h _ _ => exact .inr ⟨_, rfl, .inr (.inr ⟨_, h⟩)⟩
  | dcT _ _ _ => cases r
  | exc _ _ => cases r
  | _ => exact .inl rfl
theorem isTx_eqv {v : V} {d : PyData} {z : Str} (t : Dt K mu H v d) : isTx z v = PyData.eqv d (.str z) := by
  cases t <;> simp [isTx, PyData.eqv]
def strsD : List PyData → Option (List Str)
  | [] => some []
  | .str x :: r => (strsD r).map (x :: ·)
  | _ :: _ => none
theorem strsD_map : ∀ {ds : List PyData} {zs : List Str}, strsD ds = some zs → ds = zs.map .str
  | [], zs, h => by cases h; rfl
  | d :: r, zs, h => by
    unfold strsD at h
    split at h
    · rename_i e; cases e
    · rename_i x r' e
      simp only [Option.map_eq_some_iff] at h
      obtain ⟨ws, h1, h2⟩ := h
      injection e with e1 e2
      subst e1 e2 h2
      rw [List.map_cons, ← strsD_map h1]
    · cases h
/-- in, not in -/
def inD (neg : Bool) (d : PyData) (ds : List PyData) : Option PyData :=
  if scalD d = true ∧ ds.all scalD = true then some (.bool (if neg then !ds.any (fun z => PyData.eqv z d) else ds.any fun z => PyData.eqv z d))
  else if plainD d = true then (strsD ds).map fun zs => .bool (if neg then !(zs.any fun z => PyData.eqv d (.str z)) else zs.any fun z => PyData.eqv d (.str z)) else none
def gIn (neg : Bool) : PyData → PyData → Option PyData
  | d, .list ds => inD neg d ds
  | d, .tuple ds => inD neg d ds
  | .str x, .str z => if x.cps.size = 1 then some (.bool (if neg then !decide (x.cps.getD 0 0 ∈ z.cps.toList) else decide (x.cps.getD 0 0 ∈ z.cps.toList))) else none
  | _, _ => none
def rInA (K : PySem.W.Frag) (neg : Bool) : R2 := fun x y H Q => (rIn K neg x y H Q ∨ rInTx K neg x y H Q) ∨ ∃ (c : Nat) (z : Str), x = .str ⟨#[c]⟩ ∧ y = .str z ∧ Q (.bl (if neg then !decide (c ∈ z.cps.toList) else decide (c ∈ z.cps.toList))) H
theorem op_inA (hu : X.A.units + 1 < cLine) : OpR X (compareOp .In) (rInA X.K false) := OpR.or (OpR.or op_in_seq (op_inTx hu)) op_in_sign
theorem op_notInA (hu : X.A.units + 1 < cLine) : OpR X (compareOp .NotIn) (rInA X.K true) := OpR.or (OpR.or op_notIn_seq (op_notInTx hu)) op_notIn_sign
theorem inD_ok {neg : Bool} {x : V} {d1 d : PyData} {ds : List PyData} {p : Addr} {xs : List V} {Q : VK} (t1 : Dt K mu H x d1) (h1 : SqL K H p xs ∨ SqT K H p xs) (u : DtAll K mu H xs ds) (e : inD neg d1 ds = some d)
    (k : ∀ v H', (∀ a o, H a = some o → H' a = some o) → Dt K mu H' v d → Q v H') : rInA K neg x (.ref p) H Q := by
  unfold inD at e
  split at e
  · rename_i hc
    cases e
    refine .inl (.inl ⟨p, xs, rfl, h1, scal_v t1 hc.1, scal_vs u hc.2, ?_⟩)
    rw [scal_any t1 hc.1 u hc.2]
    exact k _ H (fun _ _ z => z) (.bl _)
  · split at e
    case isFalse => cases e
    rename_i hp
    simp only [Option.map_eq_some_iff] at e
    obtain ⟨zs, e1, e2⟩ := e
    subst e2
    rw [strsD_map e1] at u
    rw [u.texts] at h1
    refine .inl (.inr ⟨p, zs, rfl, h1, okv_of t1 hp, ?_⟩)
    have q : (zs.any fun z => isTx z x) = zs.any fun z => PyData.eqv d1 (.str z) := by
      congr 1
      funext z
      exact isTx_eqv t1
    rw [q]
    exact k _ H (fun _ _ z => z) (.bl _)
theorem ok_in {neg : Bool} : OpOk K (rInA K neg) (gIn neg) := fun mu H x y d1 d2 d Q hm t1 t2 e k => by
  unfold gIn at e
  split at e
  · obtain ⟨p, xs, rfl, h1, u⟩ := t2.list
    exact inD_ok t1 (.inl h1) u e k
  · obtain ⟨p, xs, rfl, h1, u⟩ := t2.tuple
    exact inD_ok t1 (.inr h1) u e k
  · rename_i x1 z1
    split at e
    case isFalse => cases e
    rename_i hc
    cases e
    have ex : x1 = ⟨#[x1.cps.getD 0 0]⟩ := by
      obtain ⟨⟨l⟩⟩ := x1
      cases l with
      | nil => simp at hc
      | cons c r =>
        cases r with
        | nil => rfl
        | cons _ _ => simp at hc
    exact .inr ⟨x1.cps.getD 0 0, z1, by rw [t1.text, ← ex], t2.text, k _ H (fun _ _ z => z) (.bl _)⟩
  · cases e

/-! ### ==, != of data -/
mutual
/-- no dict in it -/
def noDct : PyData → Bool
  | .dict _ => false
  | .list xs => noDcts xs
  | .tuple xs => noDcts xs
  | _ => true
def noDcts : List PyData → Bool
  | [] => true
  | x :: xs => noDct x && noDcts xs
end
mutual
theorem Dt.dp : ∀ {v : V} {d : PyData}, Dt K mu H v d → noDct d = true → Dp K H v d
  | _, _, .non, _ => .non
  | _, _, .bl b, _ => .bl b
  | _, _, .int i, _ => .int i
  | _, _, .str x, _ => .str x
  | _, _, .lst h n t, e => .lst (.inl h) (DtAll.dp t (by simpa [noDct] using e))
  | _, _, .tup h n t, e => .tup (.inl (.inl h)) (DtAll.dp t (by simpa [noDct] using e))
  | _, _, .tupK h _ t, e => .tup (h H) (DtAll.dp t (by simpa [noDct] using e))
  | _, _, .scr h t, e => by simp [noDct] at e
  | _, _, .dct h n t, e => by simp [noDct] at e
theorem DtAll.dp : ∀ {vs : List V} {ds : List PyData}, DtAll K mu H vs ds → noDcts ds = true → DpAll K H vs ds
  | _, _, .nil, _ => .nil
  | _, _, .cons h t, e => by
    simp only [noDcts, Bool.and_eq_true] at e
    exact .cons (Dt.dp h e.1) (DtAll.dp t e.2)
end
def isStrD : PyData → Bool
  | .str _ => true
  | _ => false
def isTupD : PyData → Option (List PyData)
  | .tuple ds => some ds
  | _ => none
/-- may both be compared by this layer: one is a text, or neither holds a dict -/
def gEq (d e : PyData) : Option PyData :=
  if isStrD e = true ∧ plainD d = true then some (.bool (PyData.eqv d e))
  else if (noDct d = true ∧ noDct e = true) ∧ SeqAt.shaped d = true ∧ SeqAt.shaped e = true then some (.bool (PyData.eqv d e))
  else match d, e with
    | .tuple ds, .tuple [] => some (.bool ds.isEmpty)
    | _, _ => none
def rEqT0 (K : PySem.W.Frag) : R2 := fun x y H Q => ∃ a b xs, x = .ref a ∧ y = .ref b ∧ SqT K H a xs ∧ SqT K H b [] ∧ Q (.bl xs.isEmpty) H
theorem op_eqT0 (hu : X.A.units + 1 < cLine) : OpR X (compareOp .Eq) (rEqT0 X.K) := fun pins s σ H x y v u Q I rx ry ⟨a, b, xs, ex, ey, h1, h2, q⟩ => by
  subst ex ey
  cases rx
  cases ry
  obtain ⟨its, r, p, _⟩ := I.tuple h1
  obtain ⟨its2, r2, p2, _⟩ := I.tuple h2
  cases r2
  refine PySem.W.eq_tuplesT (n := 0) (e := fun _ => true) p p2 (fun j h1 h2 => absurd h2 (by simp)) hu ⟨.bl xs.isEmpty, H, I, ?_, q⟩
  have hl := r.length
  cases xs with
  | nil =>
    cases r
    rfl
  | cons x xs =>
    cases r
    simp
    rfl
def rEqA (K : PySem.W.Frag) : R2 := fun x y H Q => (rEqS K x y H Q ∨ rEqD K x y H Q) ∨ rEqT0 K x y H Q
theorem op_eqA (hu : X.A.units + 64 < cLine) : OpR X (compareOp .Eq) (rEqA X.K) := OpR.or (OpR.or (op_eqS (by omega)) (op_eqD hu)) (op_eqT0 (by omega))
theorem ok_eq : OpOk K (rEqA K) gEq := fun mu H x y d1 d2 d Q hm t1 t2 e k => by
  unfold gEq at e
  split at e
  · rename_i hc
    cases e
    cases d2 with
    | str z =>
      refine .inl (.inl ⟨z, t2.text, okv_of t1 hc.2, ?_⟩)
      rw [isTx_eqv t1]
      exact k _ H (fun _ _ z => z) (.bl _)
    | _ => exact absurd hc.1 (by simp [isStrD])
  · split at e
    · rename_i hc
      cases e
      exact .inl (.inr ⟨d1, d2, t1.dp hc.1.1, t2.dp hc.1.2, hc.2.1, hc.2.2, k _ H (fun _ _ z => z) (.bl _)⟩)
    · split at e
      · rename_i ds0 _ _
        cases e
        obtain ⟨a, xs, rfl, h1, u1⟩ := t1.tuple
        obtain ⟨b, ys, rfl, h2, u2⟩ := t2.tuple
        cases u2
        have el : xs.isEmpty = ds0.isEmpty := by cases u1 <;> rfl
        refine .inr ⟨a, b, xs, rfl, rfl, h1, h2, ?_⟩
        rw [el]
        exact k _ H (fun _ _ z => z) (.bl _)
      · cases e
def gNe (d e : PyData) : Option PyData := if isStrD d = true ∧ isStrD e = true then some (.bool (!PyData.eqv d e))
  else if (noDct d = true ∧ noDct e = true) ∧ SeqAt.shaped d = true ∧ SeqAt.shaped e = true then some (.bool (!PyData.eqv d e)) else none
def rNeA (K : PySem.W.Frag) : R2 := fun x y H Q => rNe x y H Q ∨ rNeD K x y H Q
theorem op_neA (hu : X.A.units + 64 < cLine) : OpR X (compareOp .NotEq) (rNeA X.K) := OpR.or op_ne (op_neD hu)
theorem ok_ne : OpOk K (rNeA K) gNe := fun mu H x y d1 d2 d Q hm t1 t2 e k => by
  unfold gNe at e
  split at e
  · rename_i hc
    cases e
    cases d1 with
    | str a =>
      cases d2 with
      | str b =>
        have e1 := t1.text
        have e2 := t2.text
        subst e1 e2
        have q : (!decide (V.str a = V.str b)) = !PyData.eqv (.str a) (.str b) := by
          have e3 : PyData.eqv (.str a) (.str b) = (a == b) := rfl
          rw [e3]
          by_cases q : a = b
          · subst q; simp
          · have q2 : (a == b) = false := beq_eq_false_iff_ne.mpr q
            rw [q2]
            simp [q]
        exact .inl ⟨rfl, by rw [q]; exact k _ H (fun _ _ z => z) (.bl _)⟩
      | _ => cases hc.2
    | _ => cases hc.1
  · split at e
    · rename_i hc
      cases e
      exact .inr ⟨d1, d2, t1.dp hc.1.1, t2.dp hc.1.2, hc.2.1, hc.2.2, k _ H (fun _ _ z => z) (.bl _)⟩
    · cases e
/-- is, is not of truths, of None -/
def gIs (neg : Bool) : PyData → PyData → Option PyData
  | .bool a, .bool b => some (.bool (if neg then !decide (a = b) else decide (a = b)))
  | _, _ => none
theorem ok_isnot_bl : OpOk K (fun x y H Q => ∃ a b, x = .bl a ∧ y = .bl b ∧ Q (.bl (!decide (a = b))) H) (gIs true) := fun mu H x y d1 d2 d Q hm t1 t2 e k => by
  unfold gIs at e
  split at e
  · cases e
    exact ⟨_, _, t1.bool, t2.bool, k _ H (fun _ _ z => z) (.bl _)⟩
  · cases e
theorem ok_is_bl : OpOk K (fun x y H Q => ∃ a b, x = .bl a ∧ y = .bl b ∧ Q (.bl (decide (a = b))) H) (gIs false) := fun mu H x y d1 d2 d Q hm t1 t2 e k => by
  unfold gIs at e
  split at e
  · cases e
    exact ⟨_, _, t1.bool, t2.bool, k _ H (fun _ _ z => z) (.bl _)⟩
  · cases e
end
end Dl

namespace Dl
open PySem PySem.Spec PyProof.Rows L2

/-! ### isinstance -/
/-- the class of a tree -/
def tyD : PyData → Option String
  | .none => some "NoneType"
  | .bool _ => some "bool"
  | .int _ => some "int"
  | .str _ => some "str"
  | .list _ => some "list"
  | .tuple _ => some "tuple"
  | .dict kvs => if realD kvs = true then some "dict" else none
def isiB (a T : String) : Bool := a == T || (a == "bool" && T == "int")
/-- what the library's table says of such a class -/
def IsiT (T : String) : Prop := ∀ a ∈ ["NoneType", "bool", "int", "str", "list", "tuple", "dict"], kitB a T = some (isiB a T)
theorem isi_str : IsiT "str" := by unfold IsiT; decide +kernel
theorem isi_tuple : IsiT "tuple" := by unfold IsiT; decide +kernel
theorem isi_int : IsiT "int" := by unfold IsiT; decide +kernel
theorem isi_bool : IsiT "bool" := by unfold IsiT; decide +kernel
theorem isi_list : IsiT "list" := by unfold IsiT; decide +kernel
theorem isi_dict : IsiT "dict" := by unfold IsiT; decide +kernel
def gIsi (T : String) (d : PyData) : Option PyData := (tyD d).map fun a => .bool (isiB a T)
section
variable {X : Cx} {K : PySem.W.Frag} {mu : Addr → Prop} {H : Hp} {Z : Par} {a b e : Expr} {es : List Expr} {pos : Pos} {fa fb fc : DE} {ga : DA}
theorem tyD_mem {d : PyData} {n : String} (h : tyD d = some n) : n ∈ ["NoneType", "bool", "int", "str", "list", "tuple", "dict"] := by
  unfold tyD at h
  split at h <;> first | (cases h; decide) | (split at h <;> first | (cases h; decide) | cases h)
theorem tyX_of {v : V} {d : PyData} {n : String} (t : Dt K mu H v d) (h : tyD d = some n) : TyX K H v (.type n) := by
  cases t with
  | non => cases h; exact .base .non
  | bl b => cases h; exact .base (.bl b)
  | int i => cases h; exact .base (.int i)
  | str x => cases h; exact .base (.str x)
  | lst r _ _ =>
    cases h
    rcases r with r | ⟨o, r⟩
    · exact .base (.lst r)
    · exact .base (.frz r)
  | tup r _ _ =>
    cases h
    exact .base (.tup r)
  | tupK r _ _ =>
    cases h
    rcases r (fun _ => none) with (r | ⟨o, r⟩) | ⟨o, its, m, h1, h2, _⟩
    · cases r
    · cases r
    · exact .kTuple h1 h2
  | scr _ _ =>
    simp [tyD, realD] at h
  | dcT _ _ _ =>
    simp [tyD, realD] at h
  | exc _ _ =>
    simp [tyD, realD] at h
  | dct r _ _ =>
    simp only [tyD] at h
    split at h
    · cases h; exact .base (.dK r)
    · cases h
/-- isinstance(e, T) -/
theorem disi {T : String} {x c : Str} {p p2 : Pos} (hT : IsiT T) (hg : Gl X x) (hm : X.mg x = none) (hv : bootBuiltins x = some (.builtin "isinstance")) (hg2 : Gl X c) (hm2 : X.mg c = none) (hv2 : bootBuiltins c = some (.type T)) (ha : PE X e (lft X.K Z fa))
    (hn : x ≠ "__name__" := by decide) (hdb : (x == ("__debug__" : Str)) = false := by decide) (hn2 : c ≠ "__name__" := by decide) (hdb2 : (c == ("__debug__" : Str)) = false := by decide)
    (he : starEach [e, .Name c p2] X.env = (false, eval e X.env) :: starEach [.Name c p2] X.env := by rfl) (he2 : starEach [.Name c p2] X.env = (false, eval (.Name c p2) X.env) :: starEach [] X.env := by rfl) (hpl : (backTo pos (starEach [.Name c p2] X.env)).any (·.1) = false := by rfl) :
    PE X (.Call (.Name x p) [e, .Name c p2] [] pos) (lft X.K Z (dUn (gIsi T) fa)) := PEimp (pe_callB call_isi hg hm hv (pa_cons ha (pa_cons (pe_bltn (v := .ty T) hg2 hm2 hv2 rfl hn2 hdb2) pa_nil he2) he) hn hdb he hpl) fun σ H Q h => by
  obtain ⟨M, s, d, s', rl, hf, k⟩ := h
  obtain ⟨d1, h1, h3⟩ := dUn_some hf
  unfold gIsi at h3
  simp only [Option.map_eq_some_iff] at h3
  obtain ⟨n, h4, h5⟩ := h3
  subst h5
  refine ⟨M, s, d1, s', rl, h1, fun v H1 k1 r1 t1 => ?_⟩
  exact ⟨v, .ty T, .type n, .type T, _, rfl, .ty T, tyX_of t1 h4, kit_ty (hT n (tyD_mem h4)), k _ H1 k1 r1 (.bl _)⟩

/-! ### slices -/
abbrev DO := Sl → Option (Option Int × Sl)
def oN : DO := fun s => some (none, s)
def oS (f : DE) : DO := fun s => (f s).bind fun p => match p.1 with
  | .int i => some (some i, p.2)
  | _ => none
def lfO (K : PySem.W.Frag) (Z : Par) (f : DO) : TO := fun σ H Q => ∃ M s d s', Rel K Z M σ H s ∧ f s = some (d, s') ∧ ∀ H', Kq Z M H M H' → Rel K Z M σ H' s' → Q d H'
theorem POimp {X : Cx} {e : Option Expr} {t t' : TO} (h : PO X e t) (i : ∀ σ H Q, t' σ H Q → t σ H Q) : PO X e t' := ⟨fun pins s σ H Q I q => h.run pins s σ H Q I (i σ H Q q)⟩
theorem don : PO X none (lfO X.K Z oN) := POimp po_none fun σ H Q h => by
  obtain ⟨M, s, d, s', rl, hf, k⟩ := h
  cases hf
  exact k H (Kq.refl _ _ _) rl
theorem dos (h : PE X e (lft X.K Z fa)) : PO X (some e) (lfO X.K Z (oS fa)) := POimp (po_some h) fun σ H Q h => by
  obtain ⟨M, s, d, s', rl, hf, k⟩ := h
  unfold oS at hf
  simp only [Option.bind_eq_some_iff] at hf
  obtain ⟨⟨d1, s1⟩, h1, h2⟩ := hf
  dsimp only at h2
  split at h2
  · cases h2
    exact ⟨M, s, _, _, rl, h1, fun v H1 k1 r1 t1 => ⟨_, t1.inti, k H1 k1 r1⟩⟩
  · cases h2
def cutD (xs : List PyData) (lo hi : Option Int) : List PyData := (xs.drop (HT.sIx xs.length 0 lo)).take (HT.sIx xs.length xs.length hi - HT.sIx xs.length 0 lo)
theorem cut_dt {xs : List V} {ds : List PyData} (t : DtAll K mu H xs ds) (lo hi : Option Int) : DtAll K mu H (cutV xs lo hi) (cutD ds lo hi) := by
  unfold cutV cutD
  rw [t.len]
  exact (t.drop _).take _
def gSl (d : PyData) (lo hi : Option Int) : Option PyData := match d with
  | .list ds => some (.list (cutD ds lo hi))
  | .tuple ds => some (.tuple (cutD ds lo hi))
  | .str x => if x.length ≤ sizeLine then some (.str (cutS x lo hi)) else none
  | _ => none
def dSl (f : DE) (lo hi : DO) : DE := fun s => (f s).bind fun p => (lo p.2).bind fun q => (hi q.2).bind fun r => (gSl p.1 q.1 r.1).map fun d => (d, r.2)
def rSlZ (K : PySem.W.Frag) : V → Option Int → Option Int → Hp → VK → Prop := fun x lo hi H Q => (rSlA K x lo hi H Q ∨ rSlL K x lo hi H Q) ∨ rSlS x lo hi H Q
theorem sl_Z : SlR X (rSlZ X.K) := SlR.or (SlR.or sl_tupA sl_list) sl_str
theorem whole_cut (ds : List PyData) {lo hi : Option Int} (h : HT.sIx ds.length 0 lo = 0 ∧ HT.sIx ds.length ds.length hi = ds.length) : cutD ds lo hi = ds := by
  unfold cutD
  rw [h.1, h.2]
  simp
theorem dsl {lo hi : Option Expr} {flo fhi : DO} {p2 : Pos} (he : PE X e (lft X.K Z fa)) (hl : PO X lo (lfO X.K Z flo)) (hu : PO X hi (lfO X.K Z fhi)) : PE X (.Subscript e (.Slice lo hi none p2) pos) (lft X.K Z (dSl fa flo fhi)) := PEimp (pe_slice sl_Z he hl hu) fun σ H Q h => by
  obtain ⟨M, s, d, s', rl, hf, k⟩ := h
  unfold dSl at hf
  simp only [Option.bind_eq_some_iff, Option.map_eq_some_iff] at hf
  obtain ⟨⟨d1, s1⟩, h1, ⟨o1, s2⟩, h2, ⟨o2, s3⟩, h3, d2, h4, h5⟩ := hf
  cases h5
  refine ⟨M, s, d1, s1, rl, h1, fun v H1 k1 r1 t1 => ⟨M, s1, o1, s2, r1, h2, fun H2 k2 r2 => ⟨M, s2, o2, _, r2, h3, fun H3 k3 r3 => ?_⟩⟩⟩
  have t3 := t1.mono (k2.trans k3).kp
  have kk := k1.trans (k2.trans k3)
  unfold gSl at h4
  dsimp only at h4
  split at h4
  · cases h4
    obtain ⟨a, xs, rfl, g1, u1⟩ := t3.list
    exact .inl (.inr ⟨a, xs, rfl, g1, fun p hp => k _ _ (kk.trans (kq_grow (grow_new hp))) (r3.grow (grow_new hp)) (dt_newL r3.muT hp (cut_dt u1 _ _))⟩)
  · cases h4
    obtain ⟨a, xs, ea, g1, u1⟩ := t3.tuple
    subst ea
    refine .inl (.inl ⟨a, xs, rfl, g1, fun hw => ?_, fun _ p hp => k _ _ (kk.trans (kq_grow (grow_new hp))) (r3.grow (grow_new hp)) (dt_newT r3.muT hp (cut_dt u1 _ _))⟩)
    rw [u1.len] at hw
    rw [whole_cut _ hw] at k
    exact k _ _ kk r3 t3
  · split at h4
    case isFalse => cases h4
    cases h4
    exact .inr ⟨_, t3.text, by assumption, k _ _ kk r3 (.str _)⟩
  · cases h4
end

/-! ### a tuple turned about -/
section
variable {prog : Program} {w : World} {A : Around} {E : Value → Shared → Prop} {s : Shared}
theorem applied_rev {sl : Addr} {vl vu vs : Value} {n : Nat} {Q : Int × Int × Nat → Shared → Prop} (hs : s.heap.IsSliceOf sl vl vu vs) (pl : IsPart vl none) (pu : IsPart vu none) (ps : IsPart vs (some (-1)))
    (h : Q ((n : Int) - 1, -1, n) s) : wpAny (model prog w) A (Builtin.Slice.sliceApplied (.ref sl) (pure (n : Int))) Q E s := by
  obtain ⟨os, hos, hcs, hds⟩ := id hs
  unfold Builtin.Slice.sliceApplied Builtin.Slice.sliceFields
  refine wpAny_bind (wpAny_bind (wpAny_field hos hds (x := vl) rfl (wpAny_bind (wpAny_field hos hds (x := vu) rfl (wpAny_bind (wpAny_field hos hds (x := vs) rfl (wpAny_pure ?_)))))))
  refine wpAny_bind (HT.slicePart_ ps ?_)
  show wpAny _ _ (if ((-1 : Int) == 0) = true then _ else _) _ _ s
  rw [if_neg (by decide)]
  refine wpAny_bind (HT.slicePart_ pl (wpAny_bind (HT.slicePart_ pu (wpAny_bind (wpAny_pure ?_)))))
  have e1 : Builtin.Slice.sliceAdjust none none (-1) (n : Int) = ((n : Int) - 1, -1) := rfl
  have e2 : Builtin.Slice.slicePlaces ((n : Int) - 1) (-1) (-1) = n := by
    unfold Builtin.Slice.slicePlaces
    rw [if_neg (by decide)]
    split
    · simp only [Int.neg_neg, Int.ediv_one]; omega
    · simp only [Int.toNat_zero]; omega
  show wpAny _ _ (match Builtin.Slice.sliceAdjust none none (-1) (n : Int) with | (lo, hi) => pure (lo, (-1 : Int), Builtin.Slice.slicePlaces lo hi (-1))) _ _ s
  rw [e1]
  show wpAny _ _ (pure ((n : Int) - 1, (-1 : Int), Builtin.Slice.slicePlaces ((n : Int) - 1) (-1) (-1))) _ _ s
  rw [e2]
  exact wpAny_pure h
theorem filterMap_some {α β : Type} {f : α → Option β} {g : α → β} : ∀ l : List α, (∀ m ∈ l, f m = some (g m)) → l.filterMap f = l.map g
  | [], _ => rfl
  | a :: l, h => by
    rw [List.filterMap_cons, h a List.mem_cons_self, List.map_cons, filterMap_some l fun m hm => h m (List.mem_cons_of_mem _ hm)]
theorem pick_rev (xs : Array Value) : ((List.range xs.size).filterMap fun (m : Nat) => xs[(((xs.size : Int) - 1) + (m : Int) * (-1)).toNat]?).toArray = xs.toList.reverse.toArray := by
  congr 1
  rw [filterMap_some (g := fun m => (xs.toList.reverse[m]?).getD .none) _ fun m hm => ?_]
  · apply List.ext_getElem?
    intro i
    by_cases hi : i < xs.size
    · have hl : i < xs.toList.reverse.length := by simpa using hi
      rw [List.getElem?_map, List.getElem?_range hi, List.getElem?_eq_getElem hl]
      simp only [Option.map_some, List.getElem?_eq_getElem hl, Option.getD_some]
    · rw [List.getElem?_eq_none (by simpa using hi), List.getElem?_eq_none (by simpa using hi)]
  · have hm := List.mem_range.mp hm
    have e : (((xs.size : Int) - 1) + (m : Int) * (-1)).toNat = xs.size - 1 - m := by omega
    have hl : m < xs.toList.reverse.length := by simpa using hm
    rw [e, ← Array.getElem?_toList, List.getElem?_eq_getElem hl, List.getElem_reverse, List.getElem?_eq_getElem (by simp; omega)]
    simp
theorem getItem_tuple_rev {t sl : Addr} {items : Array Value} {vl vu vs : Value} {Q : Value → Shared → Prop} (ht : IsTup s.heap t items) (hs : s.heap.IsSliceOf sl vl vu vs) (pl : IsPart vl none) (pu : IsPart vu none) (ps : IsPart vs (some (-1)))
    (h : Q (.ref s.heap.objs.size) { s with heap := s.heap.push { cls := .type "tuple", data := .seq items.toList.reverse.toArray } }) (hsz : items.size ≤ sizeLine) : wpAny (model prog w) A (getItem (.ref t) (.ref sl)) Q E s := by
  have hok : sizeOk (.seq items.toList.reverse.toArray) := by
    show items.toList.reverse.toArray.size ≤ sizeLine
    rw [List.size_toArray, List.length_reverse, Array.length_toList]
    exact hsz
  obtain ⟨os, hos, hcs, hds⟩ := id hs
  have hTy : s.TypeIs (.ref sl) "slice" := ⟨os, hos, hcs⟩
  unfold getItem
  try with_reducible refine wpAny_holding ?_
  first | refine wpAny_bind (wpAny_pure ?_) | skip
  refine wpAny_bind (wpAny_sequenceKey ht.typeIs (by decide) ?_)
  refine wpAny_bind (wpAny_callSpecial?_slot (name := Str.ofString "__getitem__") ht.typeIs PyProof.Rows.slot_tuple_getitem (wpAny_call_entry PyProof.Rows.slot_tuple_getitem ht.typeIs entry_tuple_getitem ?_ (args_tuple_getitem _ _)))
  show wpAny _ _ (Builtin.Tuple.tupleItemsOf (.ref t) >>= _) _ _ s
  refine wpAny_bind (tupleItemsOf_ ht ?_)
  refine wpAny_bind (wpAny_typeOf hTy ?_)
  rw [if_pos (by decide)]
  refine wpAny_bind (applied_rev hs pl pu ps ?_)
  have hno : ¬ ((((items.size : Int) - 1) == 0 && (-1 : Int) == 1 && items.size == items.size) = true) := by simp
  show wpAny _ _ (if (((items.size : Int) - 1) == 0 && (-1 : Int) == 1 && items.size == items.size) = true then _ else _) _ _ s
  rw [if_neg hno, pick_rev]
  first
    | exact wpAny_bind (m := Builtin.Tuple.tupleExact _) (wpAny_newObj_type (wpAny_pure ⟨_, rfl, wpAny_pure h⟩) hok)
    | exact wpAny_bind (m := Builtin.Tuple.tupleExact _) (wpAny_newObj_type (wpAny_bind (wpAny_pure (wpAny_pure ⟨_, rfl, wpAny_pure h⟩))) hok)
    | exact wpAny_bind (wpAny_bind (m := Builtin.Tuple.tupleExact _) (wpAny_newObj_type (wpAny_pure (wpAny_pure ⟨_, rfl, wpAny_pure h⟩)) hok))
    | exact wpAny_bind (wpAny_bind (m := Builtin.Tuple.tupleExact _) (wpAny_newObj_type (wpAny_pure ⟨_, rfl, wpAny_pure h⟩) hok))
end
def gRev : PyData → Option PyData
  | .tuple ds => some (.tuple ds.reverse)
  | _ => none
section
variable {X : Cx} {K : PySem.W.Frag} {mu : Addr → Prop} {H : Hp} {Z : Par} {a b e : Expr} {es : List Expr} {pos : Pos} {fa fb fc : DE} {ga : DA}
def tRevT (K : PySem.W.Frag) (te : TE) : TE := fun σ H Q => te σ H fun x H1 => ∃ a xs, x = .ref a ∧ SqT K H1 a xs ∧ ∀ p, H1 p = none → Q (.ref p) (upd H1 p (.tup xs.reverse))
theorem pe_revT {te : TE} {k : Nat} {p1 p2 p3 : Pos} (he : PE X e te) : PE X (.Subscript e (.Slice none none (some (.UnaryOp .USub (.Constant (.int 1) k p1) p2)) p3) pos) (tRevT X.K te) := by
  refine ⟨fun pins s σ H Q I h => ?_⟩
  refine Subscript_ (thn (he.run pins s σ H _ I h) fun v s1 ⟨x, H1, I1, r1, a, xs, ex, hx, q⟩ => ?_)
  subst ex
  cases r1
  have part3 : PO X (some (.UnaryOp .USub (.Constant (.int 1) k p1) p2)) (tPart (tUn (rU fun i => .int (-i)) (tC (.int 1)))) := po_some (pe_un un_neg pe_int)
  refine wpAny_Slice (thn (po_none.run pins s1 σ H1 (fun o H2 => o = none ∧ H2 = H1) I1 ⟨rfl, rfl⟩) fun vl s2 ⟨l, H2, I2, pl, el, e2⟩ => ?_)
  subst el e2
  refine thn (po_none.run pins s2 σ H2 (fun o H3 => o = none ∧ H3 = H2) I2 ⟨rfl, rfl⟩) fun vu s3 ⟨u, H3, I3, pu, eu, e3⟩ => ?_
  subst eu e3
  refine thn (part3.run pins s3 σ H3 (fun o H4 => o = some (-1) ∧ H4 = H3) I3 ⟨1, rfl, -1, rfl, rfl, rfl⟩) fun vs s4 ⟨o, H4, I4, ps, eo, e4⟩ => ?_
  subst eo e4
  have I5 : Inv X pins σ H4 { s4 with heap := s4.heap.push { cls := .type "slice", data := .fields #[vl, vu, vs] } } := I4.kept (t' := s4.toks) fun b ob q => Heap.get?_push_of_some _ q
  obtain ⟨its, r, ht, hz⟩ := I5.tuple hx
  have hlen := r.length
  show wpAny (model X.prog X.w) X.A (subscriptTail e (.Slice none none (some (.UnaryOp .USub (.Constant (.int 1) k p1) p2)) p3) (.ref a) (.ref s4.heap.objs.size)) (EP X pins σ Q) X.xe { s4 with heap := s4.heap.push { cls := .type "slice", data := .fields #[vl, vu, vs] } }
  refine tail_any (ops := [.ref a, .ref s4.heap.objs.size]) ht.typeIs (PyProof.Rows.slot_tuple_getitem.lookup) ?_ (by with_unfolding_all rfl)
  refine getItem_tuple_rev ht (Heap.IsSliceOf.new _ vl vu vs) pl pu ps ?_ (by rw [List.size_toArray]; omega)
  refine ⟨.ref _, _, I5.laid (t' := s4.toks) (o := .tup xs.reverse) (fun b ob q => Heap.get?_push_of_some _ q) (Nat.le_refl _) ?_, rfl, q _ (I5.hok.fresh (Nat.le_refl _))⟩
  exact ⟨by rw [List.length_reverse]; exact hz, _, r.reverse, IsTup.new _ _⟩
theorem drev {k : Nat} {p1 p2 p3 : Pos} (he : PE X e (lft X.K Z fa)) : PE X (.Subscript e (.Slice none none (some (.UnaryOp .USub (.Constant (.int 1) k p1) p2)) p3) pos) (lft X.K Z (dUn gRev fa)) := PEimp (pe_revT he) fun σ H Q h => by
  obtain ⟨M, s, d, s', rl, hf, k⟩ := h
  obtain ⟨d1, h1, h3⟩ := dUn_some hf
  unfold gRev at h3
  split at h3
  · cases h3
    refine ⟨M, s, _, s', rl, h1, fun v H1 k1 r1 t1 => ?_⟩
    obtain ⟨a, xs, rfl, g1, u1⟩ := t1.tuple
    exact ⟨a, xs, rfl, g1, fun p hp => k _ _ (k1.trans (kq_grow (grow_new hp))) (r1.grow (grow_new hp)) (dt_newT r1.muT hp u1.rev)⟩
  · cases h3
end
end Dl

namespace Dl
open PySem PySem.Spec PyProof.Rows L2

/-! ### walked: a list, a tuple, a text's signs -/
def itA (f : DE) : DF := fun s => (f s).bind fun p => match p.1 with
  | .list ds => some (ds, p.2)
  | .tuple ds => some (ds, p.2)
  | .str x => some (signs x, p.2)
  | _ => none
def gNeg : PyData → Option PyData
  | .int i => some (.int (-i))
  | _ => none
/-- a constant of the module -/
def GC (K : PySem.W.Frag) (mg : Str → Option Value) (x : Str) (d : PyData) : Prop := ∃ u v, mg x = some u ∧ RelV v u ∧ ∀ mu H, Dt K mu H v d
/-- x op= e -/
def sAug (g : PyData → PyData → Option PyData) (i : Nat) (f : DE) : DS := fun s => (dVar i s).bind fun q => (f s).bind fun p => (g q.1 p.1).map fun d => .nx (p.2.set i (.dat d))
def gAddS : PyData → PyData → Option PyData
  | .int a, .int b => some (.int (a + b))
  | .str a, .str b => if a.length + b.length ≤ sizeLine then some (.str (a ++ b)) else none
  | _, _ => none
section
variable {X : Cx} {Z : Par} {tg a b e : Expr} {es : List Expr} {pos : Pos} {fa fb fc : DE} {ff : DF} {ga : DA} {st : Stmt} {sts : List Stmt} {f g : DS} {t : DT}
theorem pia (h : PE X e (lft X.K Z fa)) : PI X tg e (lfI X.K Z (itA fa)) := ⟨fun pins s0 σ H R I hq => by
  obtain ⟨M, s, ds, s', rl, hf, k⟩ := hq
  unfold itA at hf
  simp only [Option.bind_eq_some_iff] at hf
  obtain ⟨⟨d1, s1⟩, h1, h2⟩ := hf
  dsimp only at h2
  split at h2
  · cases h2
    exact (pil h).run pins s0 σ H R I ⟨M, s, _, _, rl, (by unfold itL; rw [h1]; rfl), k⟩
  · cases h2
    exact (pit h).run pins s0 σ H R I ⟨M, s, _, _, rl, (by unfold itT; rw [h1]; rfl), k⟩
  · cases h2
    exact (pis h).run pins s0 σ H R I ⟨M, s, _, _, rl, (by unfold itS; rw [h1]; rfl), k⟩
  · cases h2⟩
theorem ok_neg {K : PySem.W.Frag} : UnOk K (rU fun i => .int (-i)) gNeg := fun mu H x d1 d Q hm t1 e k => by
  unfold gNeg at e
  split at e
  · cases e
    exact ⟨_, t1.inti, k _ H (fun _ _ z => z) (.int _)⟩
  · cases e
theorem dgc {x : Str} {d : PyData} (hg : Gl X x) (c : GC X.K X.mg x d) (hd : (x == ("__debug__" : Str)) = false := by decide) : PE X (.Name x pos) (lft X.K Z (dC d)) := by
  obtain ⟨u, v, h1, h2, h3⟩ := c
  exact dg hg h1 h2 h3 hd
theorem ssetLc {i : Nat} {y x : Str} {py px : Pos} {elt iter : Expr} {ifs : List Expr} {scope : Scope} {j : Nat} {spos : Pos} (hc : X.calm = true) (hN : X.N.Nodup) (hy : X.N[i]? = some y) (hyl : X.env.scope.names.lookup y = some .local)
    (hsw : swapsWith (.ListComp elt [⟨.Name x px, iter, ifs, 0⟩] scope pos) (some (.Name y py)) spos.line X.env = pure true) (hi : PI X (.Name x px) iter (lfI X.K Z ff)) (ok : BlkOk X.N X.env.scope scope [(x, j)])
    (hg : ∀ (s : Shared) (H : Hp) (C : Addr) (cl : List (Str × Addr)) (fp : List Addr), PG (X.blk s H scope (compEnvC scope cl C X.env) fp) (.Name x px) (gName j))
    (ht : ∀ (s : Shared) (H : Hp) (C : Addr) (cl : List (Str × Addr)) (fp : List Addr) (Z : Par), PTs (X.blk s H scope (compEnvC scope cl C X.env) fp) ifs (lfT X.K Z t))
    (he : ∀ (s : Shared) (H : Hp) (C : Addr) (cl : List (Str × Addr)) (fp : List Addr) (Z : Par), PE (X.blk s H scope (compEnvC scope cl C X.env) fp) elt (lft X.K Z fa)) (hs : ∀ x, foldedSetIterable iter X.env x = pure x := by intro _; rfl) :
    PS X (.Assign [.Name y py] (.ListComp elt [⟨.Name x px, iter, ifs, 0⟩] scope pos) spos) (lfS X.K Z (sSet i (dL (fLc ff j t fa)))) :=
  PSimp (ps_setLc hc hN hy hyl hsw hi ok hg (tt := fun σ H Q => ∃ Z, lfT X.K Z t σ H Q) (te := fun σ H Q => ∃ Z, lft X.K Z fa σ H Q)
    (fun s H0 C cl fp => ⟨fun pins s' σ H Q I ⟨Z, q⟩ => (ht s H0 C cl fp Z).run pins s' σ H Q I q⟩) (fun s H0 C cl fp => ⟨fun pins s' σ H Q I ⟨Z, q⟩ => (he s H0 C cl fp Z).run pins s' σ H Q I q⟩) hs) fun D σ H h => by
  obtain ⟨M, s, fl, rl, h1, k⟩ := h
  unfold sSet dL at h1
  simp only [Option.map_eq_some_iff] at h1
  obtain ⟨⟨d, s1⟩, ⟨⟨ds, s2⟩, h1, h3⟩, h2⟩ := h1
  cases h3
  cases h2
  refine lift_lc (Z := Z) (t := t) (fa := fa) (ff := ff) (K := X.K) (j := j) (σ := σ) (H := H) (Q := fun x H1 => gName i x σ H1 D.nx) (fun _ _ _ _ q => ⟨_, q⟩) (fun _ _ _ _ q => ⟨_, q⟩) ⟨M, s, ds, _, rl, h1, fun p xs H' hp hx k1 r1 t1 => ?_⟩
  have td : Dt X.K (Mu Z M) H' (.ref p) (.list ds) := .lst (.inl hx) (fun q => by
    obtain ⟨o, e⟩ := rl.muT p q
    rw [hp] at e; cases e) (t1.mono kp_drop)
  obtain ⟨M', _, r2, k2⟩ := r1.unadd.setDat td i
  exact k M' _ H' (k1.trans k2) r2
theorem saug {i : Nat} {x : Str} {pos' : Pos} {op : Operator} {ti : TIp} {g : PyData → PyData → Option PyData} (hN : X.N.Nodup) (hi : X.N[i]? = some x) (hx : Loc X.env.scope x) (he : PE X e (lft X.K Z fa)) (ho : PIp X op ti) (ok : OpOk X.K ti g)
    (hf : X.fn x = true ∨ X.env.scope.names.lookup x = some .local := by first | exact .inl rfl | exact .inr rfl | assumption) : PS X (.AugAssign (.Name x pos') op e pos) (lfS X.K Z (sAug g i fa)) := PSimp (ps_aug hN hi hx he ho hf) fun D σ H h => by
  obtain ⟨M, s, fl, rl, h1, k⟩ := h
  unfold sAug at h1
  simp only [Option.bind_eq_some_iff, Option.map_eq_some_iff] at h1
  obtain ⟨⟨d0, s0⟩, h0, ⟨d1, s1⟩, h1, d2, h2, h3⟩ := h1
  cases h3
  obtain ⟨e0, _⟩ := dVar_some h0
  obtain ⟨v, g1, g2⟩ := rl.sl.get e0
  refine ⟨v, g1, M, s, d1, s1, rl, h1, fun w H1 k1 r1 t1 => ?_⟩
  refine ok (Mu Z M) H1 v w _ d1 d2 _ r1.muT (g2.mono k1.kp) t1 h2 fun z H2 gr t2 => ?_
  obtain ⟨M', _, r2, k2⟩ := (r1.grow gr).setDat t2 i
  exact k M' _ H2 (k1.trans ((kq_grow gr).trans k2)) r2
end

/-! ### a def that makes a list which nobody else has -/
def lfR (K : PySem.W.Frag) (Z : Par) (g : DF) : TS := fun D σ H => ∃ M s ds s', Rel K Z M σ H s ∧ g s = some (ds, s') ∧ ∀ M' σ' p xs H', Z.H0 p = none → H' p = some (.lst xs) → Rel K (Z.add p) M' σ' H' s' → DtAll K (Mu (Z.add p) M') H' xs ds → D.rt (.ref p) H'
def rSeq (f : DS) (g : DF) : DF := fun s => (f s).bind fun fl => match fl with
  | .nx s' => g s'
  | _ => none
section
variable {X : Cx} {Z : Par} {tg a b e : Expr} {es : List Expr} {pos : Pos} {fa fb fc : DE} {ff : DF} {ga : DA} {st : Stmt} {sts : List Stmt} {f : DS} {t : DT}
theorem rret (he : PE X e (lfF X.K Z ff)) : PS X (.Return (some e) pos) (lfR X.K Z ff) := PSimp (ps_ret he) fun D σ H h => by
  obtain ⟨M, s, ds, s', rl, hf, k⟩ := h
  refine ⟨M, s, ds, s', rl, hf, fun p xs H' hp hx k1 r1 t1 => k M σ p xs H' ?_ hx r1 t1⟩
  cases q : Z.H0 p with
  | none => rfl
  | some o =>
    have npp : p ∉ Z.p := fun z => by
      obtain ⟨u, e⟩ := rl.pt p z
      rw [hp] at e; cases e
    have := rl.base p o q npp
    rw [hp] at this; cases this
theorem rone (h : PS X st (lfR X.K Z ff)) : PSs X [st] (lfR X.K Z ff) := pss_one h
theorem rcons (h1 : PS X st (lfS X.K Z f)) (h2 : PSs X sts (lfR X.K Z ff)) : PSs X (st :: sts) (lfR X.K Z (rSeq f ff)) := PSsimp (pss_cons h1 h2) fun D σ H h => by
  obtain ⟨M, s, ds, s', rl, hf, k⟩ := h
  unfold rSeq at hf
  simp only [Option.bind_eq_some_iff] at hf
  obtain ⟨fl, h1, h2⟩ := hf
  cases fl with
  | nx s1 => exact ⟨M, s, .nx s1, rl, h1, fun M1 σ1 H1 k1 r1 => ⟨M1, s1, ds, s', r1, h2, fun M' σ' p xs H' hp hx r2 t2 => k M' σ' p xs H' hp hx r2 t2⟩⟩
  | _ => cases h2
end
def fnF (N : List Str) (n : Nat) (g : DF) : List PyData → Option (List PyData) := fun ds => if ds.length = n then (g (startS N ds)).map (·.1) else none
theorem okF {P : Program} {w : World} {K : PySem.W.Frag} {mg : Str → Option Value} {base : Heap} {x qual : Str} {st : Stmt} {f : Addr} {fd : FuncData} {N ps : List Str} {k : Nat} {g : DF} (F : Fun K x qual st f fd) (S : FnScope N ps (defScope st))
    (hb : ∀ (cdv : Value) (A : Around) (outer : List Env) (s : Shared) (H : Hp) (E : XK) (Z : Par), Room k (A.deeper (envOfC qual (defScope st) s.heap.objs.size f cdv)) → PSs (cxOf CX0 P w K mg base N qual (defScope st) f cdv A outer s H E).nox (defBody st) (lfR K Z g)) :
    FnOk P w K mg base CX0 (k + 1) f fd ps (spF K (fnF N ps.length g)) := by
  refine F.ok S (fun vs H Q E h => ?_) (fun cdv A outer s H vs Q E hr h => ?_)
  · obtain ⟨mu, ds, es, h1, h2, h3, h4⟩ := h
    unfold fnF at h3
    split at h3
    · rename_i hl
      rw [h2.len]; exact hl
    · cases h3
  · obtain ⟨mu, ds, es, h1, h2, h3, h4⟩ := h
    unfold fnF at h3
    split at h3
    case isFalse => cases h3
    simp only [Option.map_eq_some_iff] at h3
    obtain ⟨⟨es', s'⟩, hq, h5⟩ := h3
    cases h5
    let Z : Par := ⟨H, [], mu, .nil⟩
    refine ⟨_, hb cdv A outer s H E Z hr, [], startS N ds, _, s', ?_, hq, fun M' σ' p xs H' hp hx r t => ?_⟩
    · have muE : ∀ a, Mu Z [] a → mu a := fun a q => by
        rcases q with q | q | q
        · exact q
        · cases q
        · cases q
      refine ⟨fun a o e _ => e, fun a ha => (by cases ha), h1, fun a ha => (by cases ha), ?_⟩
      unfold startS L2.start
      rw [h2.len]
      exact slAll_start _ (h2.mono fun a o e n => ⟨e, fun z => n (muE a z)⟩)
    · refine h4 p xs H' hp (fun a o e => r.base a o e (fun z => by cases z)) hx (t.mono fun a o e n => ⟨e, fun z => n ?_⟩)
      rcases z with z | z
      · exact .inl (.inl z)
      · exact .inl (.inr z)

/-! ### a def as it is called -/
def Cal (P : Program) (w : World) (K : PySem.W.Frag) (mg : Str → Option Value) (base : Heap) (k : Nat) (x : Str) (ps : List Str) (sp : Sp) : Prop := ∃ (f : Addr) (fd : FuncData), FnOk P w K mg base CX0 k f fd ps sp ∧ mg x = some (.ref f) ∧ PySem.W.keepIn K (.ref f) = true ∧ Binds K fd ps []
/-- where a def of the text stands -/
def Std (K : PySem.W.Frag) (mg : Str → Option Value) (x : Str) (st : Stmt) (ps : List Str) : Prop := ∃ (f : Addr) (fd : FuncData), Fun K x x st f fd ∧ mg x = some (.ref f) ∧ Binds K fd ps []
section
variable {P : Program} {w : World} {K : PySem.W.Frag} {mg : Str → Option Value} {base : Heap}
theorem calP {x : Str} {st : Stmt} {N ps : List Str} {k : Nat} {b : DS} (F : Std K mg x st ps) (S : FnScope N ps (defScope st))
    (hb : ∀ (f : Addr) (cdv : Value) (A : Around) (outer : List Env) (s : Shared) (H : Hp) (E : XK) (Z : Par), Room k (A.deeper (envOfC x (defScope st) s.heap.objs.size f cdv)) → PSs (cxOf CX0 P w K mg base N x (defScope st) f cdv A outer s H E).nox (defBody st) (lfS K Z b)) :
    Cal P w K mg base (k + 1) x ps (spP K (fnP N ps.length b)) := by
  obtain ⟨f, fd, F, hm, hb2⟩ := F
  exact ⟨f, fd, okP F S (fun cdv A outer s H E Z hr => hb f cdv A outer s H E Z hr), hm, F.kp, hb2⟩
theorem calM {x : Str} {st : Stmt} {N ps : List Str} {k : Nat} {b : DS} (F : Std K mg x st ps) (S : FnScope N ps (defScope st))
    (hb : ∀ (f : Addr) (cdv : Value) (A : Around) (outer : List Env) (s : Shared) (H : Hp) (E : XK) (Z : Par), Room k (A.deeper (envOfC x (defScope st) s.heap.objs.size f cdv)) → PSs (cxOf CX0 P w K mg base N x (defScope st) f cdv A outer s H E).nox (defBody st) (lfS K Z b)) :
    Cal P w K mg base (k + 1) x ps (spM K (fnM N ps.length b)) := by
  obtain ⟨f, fd, F, hm, hb2⟩ := F
  exact ⟨f, fd, okM F S (fun cdv A outer s H E Z hr => hb f cdv A outer s H E Z hr), hm, F.kp, hb2⟩
theorem calF {x : Str} {st : Stmt} {N ps : List Str} {k : Nat} {g : DF} (F : Std K mg x st ps) (S : FnScope N ps (defScope st))
    (hb : ∀ (f : Addr) (cdv : Value) (A : Around) (outer : List Env) (s : Shared) (H : Hp) (E : XK) (Z : Par), Room k (A.deeper (envOfC x (defScope st) s.heap.objs.size f cdv)) → PSs (cxOf CX0 P w K mg base N x (defScope st) f cdv A outer s H E).nox (defBody st) (lfR K Z g)) :
    Cal P w K mg base (k + 1) x ps (spF K (fnF N ps.length g)) := by
  obtain ⟨f, fd, F, hm, hb2⟩ := F
  exact ⟨f, fd, okF F S (fun cdv A outer s H E Z hr => hb f cdv A outer s H E Z hr), hm, F.kp, hb2⟩
theorem Std.noneM {x : Str} {st : Stmt} {ps : List Str} (c : Std K mg x st ps) (k : Nat) : Cal P w K mg base k x ps (spM K fun _ _ => none) := by
  obtain ⟨f, fd, F, hm, hb⟩ := c
  refine ⟨f, fd, ⟨fun vs H Q E h => ?_, fun A outer s H args us vs Q E hr e hb hv h => ?_⟩, hm, F.kp, hb⟩
  · obtain ⟨_, _, _, _, _, _, _, _, _, _, _, _, _, _, h, _⟩ := h
    cases h
  · obtain ⟨_, _, _, _, _, _, _, _, _, _, _, _, _, _, h, _⟩ := h
    cases h
theorem Std.noneP {x : Str} {st : Stmt} {ps : List Str} (c : Std K mg x st ps) (k : Nat) : Cal P w K mg base k x ps (spP K fun _ => none) := by
  obtain ⟨f, fd, F, hm, hb⟩ := c
  refine ⟨f, fd, ⟨fun vs H Q E h => ?_, fun A outer s H args us vs Q E hr e hb hv h => ?_⟩, hm, F.kp, hb⟩
  · obtain ⟨_, _, _, _, _, h, _⟩ := h
    cases h
  · obtain ⟨_, _, _, _, _, h, _⟩ := h
    cases h
theorem Cal.impP {x : Str} {ps : List Str} {k : Nat} {m m' : List PyData → Option PyData} (c : Cal P w K mg base k x ps (spP K m)) (h : ∀ ds d, m' ds = some d → m ds = some d) : Cal P w K mg base k x ps (spP K m') := by
  obtain ⟨f, fd, F, r⟩ := c
  refine ⟨f, fd, F.imp fun vs H Q E q => ?_, r⟩
  obtain ⟨mu, ds, d, h1, h2, h3, h4⟩ := q
  exact ⟨mu, ds, d, h1, h2, h ds d h3, h4⟩
theorem Cal.impM {x : Str} {ps : List Str} {k : Nat} {m m' : List PyData → List PyData → Option (PyData × List PyData)} (c : Cal P w K mg base k x ps (spM K m)) (h : ∀ pd ds d, m' pd ds = some d → m pd ds = some d) : Cal P w K mg base k x ps (spM K m') := by
  obtain ⟨f, fd, F, r⟩ := c
  refine ⟨f, fd, F.imp fun vs H Q E q => ?_, r⟩
  obtain ⟨mu, p, xs, pd, rest, ds, d, pd', h1, h2, h3, h4, h5, h6, h7, h8⟩ := q
  exact ⟨mu, p, xs, pd, rest, ds, d, pd', h1, h2, h3, h4, h5, h6, h _ _ _ h7, h8⟩
theorem Cal.mono {x : Str} {ps : List Str} {j k : Nat} {sp : Sp} (c : Cal P w K mg base j x ps sp) (h : j ≤ k) : Cal P w K mg base k x ps sp := by
  obtain ⟨f, fd, F, r⟩ := c
  exact ⟨f, fd, F.mono h, r⟩
end
section
variable {X : Cx} {Z : Par} {a b e : Expr} {es : List Expr} {pos : Pos} {fa fb fc : DE} {ff : DF} {ga : DA} {k j : Nat} {ps : List Str} {x : Str} {p : Pos}
theorem dcl {m : List PyData → Option PyData} (c : Cal X.prog X.w X.K X.mg X.base j x ps (spP X.K m)) (hr : Room k X.A) (hj : j ≤ k) (hg : Gl X x) (ha : PA X (e :: es) (lfA X.K Z ga)) (hx : Passes CX0 X E0 := by exact pass0)
    (hdb : (x == ("__debug__" : Str)) = false := by decide) (he : starEach (e :: es) X.env = (false, eval e X.env) :: starEach es X.env := by rfl) (hpl : (backTo pos (starEach es X.env)).any (·.1) = false := by rfl) :
    PE X (.Call (.Name x p) (e :: es) [] pos) (lft X.K Z (dCall m ga)) := by
  obtain ⟨f, fd, F, hm, hk, hb⟩ := c
  exact dcall F (hr.mono hj) hg hm hk hb ha hx hdb he hpl
theorem dcl0 {m : List PyData → Option PyData} (c : Cal X.prog X.w X.K X.mg X.base j x ps (spP X.K m)) (hr : Room k X.A) (hj : j ≤ k) (hg : Gl X x) (hx : Passes CX0 X E0 := by exact pass0)
    (hdb : (x == ("__debug__" : Str)) = false := by decide) : PE X (.Call (.Name x p) [] [] pos) (lft X.K Z (dCall m aNil)) := by
  obtain ⟨f, fd, F, hm, hk, hb⟩ := c
  exact dcall0 F (hr.mono hj) hg hm hk hb hx hdb
theorem dclM {m : List PyData → List PyData → Option (PyData × List PyData)} (i : Nat) (c : Cal X.prog X.w X.K X.mg X.base j x ps (spM X.K m)) (hr : Room k X.A) (hj : j ≤ k) (hg : Gl X x) (h1 : PE X e (tVar i)) (ha : PA X es (lfA X.K Z ga)) (hx : Passes CX0 X E0 := by exact pass0)
    (hdb : (x == ("__debug__" : Str)) = false := by decide) (he : starEach (e :: es) X.env = (false, eval e X.env) :: starEach es X.env := by rfl) (hpl : (backTo pos (starEach es X.env)).any (·.1) = false := by rfl) :
    PE X (.Call (.Name x p) (e :: es) [] pos) (lft X.K Z (dCallM m i ga)) := by
  obtain ⟨f, fd, F, hm, hk, hb⟩ := c
  exact dcallM i F (hr.mono hj) hg hm hk hb h1 ha hx hdb he hpl
theorem fcl {m : List PyData → Option (List PyData)} (c : Cal X.prog X.w X.K X.mg X.base j x ps (spF X.K m)) (hr : Room k X.A) (hj : j ≤ k) (hg : Gl X x) (ha : PA X (e :: es) (lfA X.K Z ga)) (hx : Passes CX0 X E0 := by exact pass0)
    (hdb : (x == ("__debug__" : Str)) = false := by decide) (he : starEach (e :: es) X.env = (false, eval e X.env) :: starEach es X.env := by rfl) (hpl : (backTo pos (starEach es X.env)).any (·.1) = false := by rfl) :
    PE X (.Call (.Name x p) (e :: es) [] pos) (lfF X.K Z (fCall m ga)) := by
  obtain ⟨f, fd, F, hm, hk, hb⟩ := c
  exact fcall F (hr.mono hj) hg hm hk hb ha hx hdb he hpl
end
end Dl

/-! ### len(set(..)) of texts -/
namespace Dl
open PySem PySem.Spec PyProof.Rows L2
/-- how many unlike ones -/
def unlike : List Str → List Str → Nat
  | _, [] => 0
  | seen, z :: r => if z ∈ seen then unlike seen r else unlike (z :: seen) r + 1
/-- .. among the first i -/
def unl (zs : List Str) : Nat → Nat
  | 0 => 0
  | i + 1 => match zs[i]? with
    | some z => if z ∈ zs.take i then unl zs i else unl zs i + 1
    | none => unl zs i
theorem unl_le (zs : List Str) : ∀ i, unl zs i ≤ i
  | 0 => Nat.le_refl _
  | i + 1 => by
    have h := unl_le zs i
    unfold unl
    split
    · split <;> omega
    · omega
theorem setOf_as {P : Program} {w : World} {h : Heap} {a : Addr} {S S' : Str → Bool} {n n' : Nat} (R : h.SetOf (PySem.strKind P w) a S n) (e : ∀ k, S k = S' k) (en : n = n') : h.SetOf (PySem.strKind P w) a S' n' := by
  have e' : S = S' := funext e
  subst e' en
  exact R
theorem setOf_moved {P : Program} {w : World} {h h' : Heap} {a : Addr} {S : Str → Bool} {n : Nat} (R : h.SetOf (PySem.strKind P w) a S n) (k : ∀ o, h.get? a = some o → h'.get? a = some o) : h'.SetOf (PySem.strKind P w) a S n := by
  obtain ⟨o, es, ep, t, ho, r⟩ := R
  exact ⟨o, es, ep, t, k o ho, r⟩
section
variable {P : Program} {w : World} {A : Around} {E : Value → Shared → Prop} {s : Shared}
theorem set_fill {I : Addr} {fp wr : List Addr} {G : Array GenState → Array GenState → Prop} {n : Nat} {Pv : Nat → Value → Prop} {St : Nat → Shared → Prop} {R : Result → Shared → Prop}
    (W : WalksS P w A.in1 I fp wr G n Pv St) (a : Addr) (out : a ∉ fp) (zs : List Str) (hn : n = zs.length) (few : zs.length + 1 < scanBound) (vals : ∀ i v, Pv i v → ∃ z t, zs[i]? = some z ∧ v = .str z t) (left : Nat) :
    ∀ (i : Nat) (s : Shared), n - i = left → i ≤ n → St i s → s.heap.SetOf (PySem.strKind P w) a (fun k => decide (k ∈ zs.take i)) (unl zs i) →
      (∀ s', Moved (a :: wr) G s s' → s'.heap.SetOf (PySem.strKind P w) a (fun k => decide (k ∈ zs)) (unl zs n) → R (.ok (.ret .none)) s') → codeAny (model P w) A (.builtin "set.update.loop" ⟨[.ref a, .ref I], []⟩) R s := by
  have outw : a ∉ wr := fun h => out (W.sub _ h)
  have more : ∀ b ∈ wr, b ∈ a :: wr := fun b hb => List.mem_cons_of_mem _ hb
  induction left with
  | zero =>
    intro i s hl hi hst hS hR
    obtain rfl : i = n := by omega
    refine codeAny_builtin F.entry_set_update_loop ?_
    rw [Around.under_plainId F.plain_set_update_loop _]
    show wpAny _ A.in1 (pyNext (.ref I) >>= _) _ _ s
    refine wpAny_bind (W.done s _ _ hst fun s' mv => ?_)
    show wpAny _ A.in1 (ret Value.none) _ _ s'
    rw [List.take_of_length_le (show zs.length ≤ i by omega)] at hS
    exact wpAny_pure (hR s' (mv.mono more) (setOf_moved hS fun o e => mv.heap a o outw e))
  | succ left ih =>
    intro i s hl hi hst hS hR
    have lt : i < n := by omega
    refine codeAny_builtin F.entry_set_update_loop ?_
    rw [Around.under_plainId F.plain_set_update_loop _]
    show wpAny _ A.in1 (pyNext (.ref I) >>= _) _ _ s
    refine wpAny_bind (W.item i s _ _ lt hst fun v s' hP hst' mv => ?_)
    obtain ⟨z, t, hz, rfl⟩ := vals i v hP
    have hS' := setOf_moved hS (h' := s'.heap) fun o e => mv.heap a o outw e
    show wpAny _ A.in1 (holding [Value.str z t] (setAdd a (.str z t)) >>= _) _ _ s'
    refine wpAny_bind (wpAny_holding ?_)
    unfold setAdd
    refine wpAny_holding (wpAny_bind ((PySem.strKind P w).pyHash (k := z) (strKind_is _ _ _ _) ?_))
    have small : unl zs i + 1 < scanBound := by have := unl_le zs i; omega
    refine wpAny_setAddHashed_of (knd := PySem.strKind P w) (s := { s' with toks := s'.toks + 1 }) (strKind_is _ _ _ _) rfl hS' small fun h' same hS2 => ?_
    have hS3 : h'.SetOf (PySem.strKind P w) a (fun k => decide (k ∈ zs.take (i + 1))) (unl zs (i + 1)) := by
      refine setOf_as hS2 (fun k => ?_) ?_
      · rw [List.take_add_one, hz]
        simp [List.mem_append]
      · show (if decide (z ∈ zs.take i) = true then unl zs i else unl zs i + 1) = unl zs (i + 1)
        rw [unl, hz]
        simp only [decide_eq_true_eq]
    refine wpAny_pure ⟨plainId_quiet F.plain_set_update_loop _, ih (i + 1) _ (by omega) lt (W.frame _ s' _ _ hst' (Nat.le_succ _) fun b hb o e => ?_) hS3 fun s'' mv2 hS4 => ?_⟩
    · have nb : b ≠ a := fun h => out (h ▸ hb)
      rw [same.2 b nb]; exact e
    · refine hR s'' (Moved.trans W.gtrans ((mv.mono more).then_heap (Nat.le_succ _) fun b o hb e => ?_) mv2) hS4
      have nb : b ≠ a := fun h => hb (h ▸ List.mem_cons_self)
      rw [same.2 b nb]; exact e
/-- the set ahead of its items -/
def emptySet (w : World) : Obj := { cls := .type "set", dict := none, data := .set #[] 0 (.fresh 0 0 (!w.params.followText "set-order")) }
theorem strs_item {us : List Value} {zs : List Str} (h : StrsAre us zs) : ∀ {i : Nat} {v : Value}, us[i]? = some v → ∃ z t, zs[i]? = some z ∧ v = .str z t := by
  induction h with
  | nil => intro i v e; simp at e
  | cons z t r ih =>
    intro i v e
    cases i with
    | zero => simp at e; exact ⟨z, t, rfl, e.symm⟩
    | succ i => simpa using ih (by simpa using e)
theorem new_setOf {h : Heap} {a : Addr} {zs : List Str} (e : h.get? a = some (emptySet w)) : h.SetOf (PySem.strKind P w) a (fun k => decide (k ∈ zs.take 0)) (unl zs 0) :=
  ⟨_, #[], 0, _, e, ⟨rfl, rfl, rfl⟩, rfl, (fun e he => by simp at he), (fun k => by simp), (by decide), (by rfl), rfl⟩
set_option maxHeartbeats 8000000 in
theorem call_set_texts {l : Addr} {items : Array Value} (zs : List Str) {Q : Value → Shared → Prop} (cold : A.handled = none) (hl : s.heap.IsTuple l items) (hit : StrsAre items.toList zs) (few : zs.length + 1 < scanBound)
    (h : ∀ (h' : Heap) (tk : Nat), h'.SetOf (PySem.strKind P w) s.heap.objs.size (fun k => decide (k ∈ zs)) (unl zs zs.length) → (∀ b o, s.heap.get? b = some o → h'.get? b = some o) → Q (.ref s.heap.objs.size) { s with heap := h', toks := tk }) :
    wpAny (model P w) A (call (.type "set") [.ref l]) Q E s := by
  have size : items.size = zs.length := by
    have q := StrsAre.length hit
    rw [Array.length_toList] at q
    exact q
  obtain ⟨c, tl, hmro⟩ := F.called_set.mro
  have hmade := F.called_set.made
  have hsub := F.called_set.sub
  refine wpAny_call (codeAny_of_tree ?_)
  show wpAny _ _ (callAny (.type "set") _) _ _ _
  refine wpAny_pure ⟨Code.quiet_builtin _ (by decide +kernel), codeAny_builtin F.entry_type_call ?_⟩
  rw [Around.under_plain (weight_type_call_type "set" [.ref l] []) rfl]
  have h1 := F.called_set.notType
  have h2 := F.called_set.canCreate
  have hct := F.typeCall_set_1 (.ref l)
  repeat (any_goals (first | assumption | wp_step))
  refine codeAny_mono (code_set_led1 (.ref l) (E := E) (Q₁ := fun obj s₁ => obj = .ref s.heap.objs.size ∧ s₁ = { s with heap := s.heap.push (emptySet w) }) ⟨rfl, rfl⟩) fun r s₁ hr => ?_
  cases r with
  | error e => exact hr
  | ok fl =>
    cases fl with
    | ret obj =>
      obtain ⟨rfl, rfl⟩ := hr
      have hS : (s.heap.push (emptySet w)).get? s.heap.objs.size = some (emptySet w) := Heap.get?_push_size _ rfl
      have hT : Shared.TypeIs { s with heap := s.heap.push (emptySet w) } (.ref s.heap.objs.size) "set" := ⟨_, hS, rfl⟩
      have hli := F.called_set.init.lookup
      have hbi := F.called_set.init.bind (.ref s.heap.objs.size)
      repeat (any_goals (first | assumption | wp_step))
      refine codeAny_mono (codeAny_call_builtin (R := wants (fun r s₂ => r = .none ∧ ∃ h' tk, s₂ = { s with heap := h', toks := tk } ∧ h'.SetOf (PySem.strKind P w) s.heap.objs.size (fun k => decide (k ∈ zs)) (unl zs zs.length) ∧
          (∀ b o, s.heap.get? b = some o → h'.get? b = some o)) E) F.called_set.init.plain F.entry_set_init (check_set_init_1 hT ?_)) fun r₂ s₂ hr₂ => ?_
      · obtain ⟨⟨ocls, odict, odata, oslots⟩, hol, hcl, nl, hdl⟩ := hl
        simp only at hcl hdl
        subst hcl hdl
        have hol' : (s.heap.push (emptySet w)).get? l = some { cls := .type "tuple", dict := odict, data := .seq items nl, slots := oslots } := Heap.get?_push_of_some _ hol
        have hsls := F.sub_tuple_set
        have hslf := F.sub_tuple_frozenset
        have hne : (Value.type "tuple" == Value.type "dict") = false := by decide
        have hl1 : (s.heap.push (emptySet w)).IsTuple l items := ⟨_, hol', rfl, nl, rfl⟩
        unfold Builtin.«set.__init__» noKeywords Builtin.Frozenset.updateFrom
        generalize hPI : pyIter = PI
        wp_walk
        subst hPI
        refine wpAny_pyIter_tuple hl1 ?_
        refine wpAny_bind (wpAny_runValue ?_)
        have lS : l < s.heap.objs.size := Heap.lt_size hol
        have cold3 : A.in1.in1.in1.handled = none := by simp [cold]
        have apart : l ≠ (s.heap.push (emptySet w)).objs.size := by
          rw [Heap.size_push]; exact Nat.ne_of_lt (Nat.lt_succ_of_lt lS)
        have out : s.heap.objs.size ∉ [(s.heap.push (emptySet w)).objs.size, l] := by
          rw [Heap.size_push]; simp only [List.mem_cons, List.mem_singleton, List.not_mem_nil, or_false, not_or]
          exact ⟨Nat.ne_of_lt (Nat.lt_succ_self _), Nat.ne_of_gt lS⟩
        have vals : ∀ (i : Nat) (v : Value), items[i]? = some v → ∃ z t, zs[i]? = some z ∧ v = .str z t := fun i v hv => strs_item hit (by rw [Array.getElem?_toList]; exact hv)
        refine set_fill ((Walks.tuple cold3 _ l apart items).toS) s.heap.objs.size out zs size few vals (items.size - 0) 0 _ (by omega) (Nat.zero_le _) ⟨⟨_, Heap.get?_push_size _ rfl, rfl, rfl⟩, (hl1.push _)⟩ ?hS0 ?hR
        case hS0 => exact new_setOf (Heap.get?_push_of_some _ hS)
        case hR =>
          intro s' mv hS'
          obtain ⟨h', g2, d', tk', os'⟩ := s'
          have eg : g2 = s.gens := mv.gens
          have ed : d' = s.drawn := mv.drawn
          have eo : os' = s.os := mv.os
          subst eg; subst ed; subst eo
          show wpAny _ _ _ _ _ _
          refine wpAny_pure ?_
          show wpAny _ _ (ret Value.none) _ _ _
          rw [size] at hS'
          refine wpAny_pure ⟨rfl, h', tk', rfl, hS', fun b o e => ?_⟩
          have b0 : b < s.heap.objs.size := Heap.lt_size e
          have b1 : b ≠ s.heap.objs.size := Nat.ne_of_lt b0
          have b2 : b ≠ (s.heap.push (emptySet w)).objs.size := by
            rw [Heap.size_push]; exact Nat.ne_of_lt (Nat.lt_succ_of_lt b0)
          exact mv.heap b o (by simp only [List.mem_cons, List.mem_singleton, List.not_mem_nil, or_false, not_or]; exact ⟨b1, b2⟩) (Heap.get?_push_of_some _ (Heap.get?_push_of_some _ e))
      · cases r₂ with
        | error e => exact hr₂
        | ok fl₂ =>
          cases fl₂ with
          | ret r =>
            obtain ⟨rfl, h', tk, rfl, hS', hk'⟩ := hr₂
            repeat (any_goals (first | assumption | wp_step))
            exact h _ _ hS' hk'
          | _ => exact hr₂.elim
    | _ => exact hr.elim
end
/-- len(set(xs)) of texts -/
def strsS : List PyData → Option (List Str)
  | [] => some []
  | .str z :: r => (strsS r).map (z :: ·)
  | _ => none
def gLenSet : PyData → Option PyData
  | .tuple ds => (strsS ds).bind fun zs => if zs.length + 1 < scanBound then some (.int (unl zs zs.length)) else none
  | _ => none
section
variable {X : Cx} {Z : Par} {fa : DE}
theorem strsS_of {K : PySem.W.Frag} {mu : Addr → Prop} {H : Hp} : ∀ {ds : List PyData} {zs : List Str} {xs : List V}, strsS ds = some zs → DtAll K mu H xs ds → xs = zs.map V.str
  | [], _, _, e, .nil => by cases e; rfl
  | d :: ds, zs, _, e, .cons (v := v) h r => by
    unfold strsS at e
    split at e
    · rename_i q; cases q
    · rename_i z r' q
      cases q
      simp only [Option.map_eq_some_iff] at e
      obtain ⟨zs', e1, rfl⟩ := e
      rw [strsS_of e1 r, h.text]
      rfl
    · cases e
theorem dlenset {a : Expr} {p p2 q pos : Pos} (hc : X.calm = true) (hg : Gl X "len") (hm : X.mg "len" = none) (hg2 : Gl X "set") (hm2 : X.mg "set" = none) (ha : PE X a (lft X.K Z fa))
    (na : starEach [a] X.env = (false, eval a X.env) :: starEach [] X.env := by rfl) : PE X (.Call (.Name "len" p) [.Call (.Name "set" p2) [a] [] q] [] pos) (lft X.K Z (dUn gLenSet fa)) := by
  refine ⟨fun pins s σ H Q I h => ?_⟩
  obtain ⟨M, sl, d, sl', rl, hf, k⟩ := h
  obtain ⟨d1, f1, g1⟩ := dUn_some hf
  refine Call_ (ld_blt I hg hm boot_len ?_)
  refine PyProof.Rows.callWith_builtin1 (PyProof.Rows.args_cons ?_ rfl) rfl rfl
  refine Call_ (ld_blt I hg2 hm2 boot_set ?_)
  refine PyProof.Rows.callWith_type1 (PyProof.Rows.args_cons (thn (ha.run pins s σ H (fun v H1 => Kq Z M H M H1 ∧ Rel X.K Z M σ H1 sl' ∧ Dt X.K (Mu Z M) H1 v d1) I ⟨M, sl, d1, sl', rl, f1, fun v H' k1 r1 t1 => ⟨k1, r1, t1⟩⟩) fun v s1 ⟨x, H1, I1, r1, k1, r2, t1⟩ => PyProof.Rows.args_nil ?_) na) na rfl
  unfold gLenSet at g1
  split at g1
  case h_2 => cases g1
  rename_i ds
  simp only [Option.bind_eq_some_iff] at g1
  obtain ⟨zs, e1, e2⟩ := g1
  split at e2
  case isFalse => cases e2
  rename_i few
  cases e2
  obtain ⟨l, xs, rfl, hq, u1⟩ := t1.tuple
  obtain rfl := strsS_of e1 u1
  cases r1
  obtain ⟨its, r, pl, hz⟩ := I1.tuple hq
  refine call_set_texts zs (I1.ok.hd hc) pl (by simpa using strsAre_of r) few fun h' tk hS hk => ?_
  refine PyProof.Rows.args_nil ?_
  obtain ⟨o, es, ep, t, ho, hex, hd, _, _, _, hf', hn⟩ := hS
  have I2 : Inv X pins σ H1 { s1 with heap := h', toks := tk } := I1.kept fun b o e => hk b o e
  have := unl_le zs zs.length
  exact call_len_set ho hex hd hf' (by rw [hn]; unfold scanBound at few; omega) ⟨.int (unl zs zs.length), H1, I2.tok _, ⟨_, by rw [hn]⟩, k _ H1 k1 r2 (.int _)⟩
end
end Dl

/-! ### repr of data -/
namespace Dl
open PySem PySem.Spec PyProof.Rows L2
/-- what is known where a text of a thing is made: no text of a thing is being made, and where the modules' table stands -/
structure CG (X : Cx) : Prop where
  gd : X.A.guards = some []
  un : X.A.units + 100 < cLine
  sys : ∃ o es n, X.base.get? sysModules = some o ∧ o.data = .dict es n

mutual
def realAll : PyData → Bool
  | .list xs | .tuple xs => realAlls xs
  | .dict kvs => realKvs kvs
  | _ => true
def realAlls : List PyData → Bool
  | [] => true
  | x :: xs => realAll x && realAlls xs
def realKvs : List (PyData × PyData) → Bool
  | [] => true
  | (.none, _) :: _ => false
  | (_, v) :: r => realAll v && realKvs r
end
def gRepr : List PyData → Option PyData
  | [d] => if d.showable && realAll d && decide (d.shown.length ≤ sizeLine) && decide (d.depth ≤ 60) then some (.str d.shown) else none
  | _ => none

section
variable {X : Cx} {pins : List (Addr × Obj)} {σ : L2.St} {H : Hp} {s : Shared} {mu : Addr → Prop}
theorem sys_not (I : Inv X pins σ H s) (c : CG X) : H sysModules = none ∧ ∃ o es n, s.heap.get? sysModules = some o ∧ o.data = .dict es n := by
  obtain ⟨o, es, n, h1, h2⟩ := c.sys
  exact ⟨(I.bs _ _ h1).2, o, es, n, (I.bs _ _ h1).1, h2⟩
theorem list_not_sys {a : Addr} {its : Array Value} (I : Inv X pins σ H s) (c : CG X) (p : PlainL s.heap a its) : sysModules ≠ a := fun e => by
  obtain ⟨_, o, es, n, h1, h2⟩ := sys_not I c
  obtain ⟨o', n', q1, _, _, q2⟩ := p
  rw [e] at h1
  rw [h1] at q1
  cases q1
  rw [h2] at q2
  cases q2
mutual
theorem reads_of (I : Inv X pins σ H s) (c : CG X) : ∀ {v : V} {u : Value} {d : PyData}, Dt X.K mu H v d → RelV v u → realAll d = true → ∃ as, Reads s.heap u d as ∧ sysModules ∉ as
  | _, _, _, .non, r, _ => by cases r; exact ⟨[], .none, by simp⟩
  | _, _, _, .bl b, r, _ => by cases r; exact ⟨[], .bool b, by simp⟩
  | _, _, _, .int i, r, _ => by obtain ⟨t, rfl⟩ := r; exact ⟨[], .int i t, by simp⟩
  | _, _, _, .str x, r, _ => by obtain ⟨t, rfl⟩ := r; exact ⟨[], .str x t, by simp⟩
  | _, _, _, .lst h _ t, r, g => by
    cases r
    obtain ⟨its, r, p, _⟩ := I.list (.inl h)
    obtain ⟨as, h1, h2⟩ := readsAll_of I c t r (by simpa [realAll] using g)
    have ns := list_not_sys I c p
    obtain ⟨o, n, q1, q2, _, q3⟩ := p
    exact ⟨_, .list q1 q2 q3 (by simpa using h1), by simp [ns, h2]⟩
  | _, _, _, .scr h t, r, g => by simp [realAll, realKvs] at g
  | _, _, _, .tup h _ t, r, g => by
    cases r
    obtain ⟨its, r, ⟨o, q1, q2, n, q3⟩, _⟩ := I.tuple (.inl (.inl h))
    obtain ⟨as, h1, h2⟩ := readsAll_of I c t r (by simpa [realAll] using g)
    exact ⟨_, .tuple q1 q2 q3 (by simpa using h1), h2⟩
  | _, _, _, .tupK h _ t, r, g => by
    cases r
    obtain ⟨its, r, ⟨o, q1, q2, n, q3⟩, _⟩ := I.tuple (h H)
    obtain ⟨as, h1, h2⟩ := readsAll_of I c t r (by simpa [realAll] using g)
    exact ⟨_, .tuple q1 q2 q3 (by simpa using h1), h2⟩
  | _, _, _, .dct (a := a) h _ t, r, g => by
    cases r
    obtain ⟨_, ns, vs, kv, o, es, ep, q1, q2, q3, _, q4, _⟩ := I.hok _ _ h
    obtain ⟨as, bs, h1, h2, h3, h4⟩ := readsKv_of I c t kv q4 (by simpa [realAll] using g)
    exact ⟨_, .dict q1 q2.1 q3 h1 h2, by
      have no : sysModules ≠ a := fun e => (by rw [← e] at ns; simp at ns)
      simp [h3, h4, no]⟩
theorem readsAll_of (I : Inv X pins σ H s) (c : CG X) : ∀ {vs : List V} {us : List Value} {ds : List PyData}, DtAll X.K mu H vs ds → Vals vs us → realAlls ds = true → ∃ as, ReadsAll s.heap us ds as ∧ sysModules ∉ as
  | _, _, _, .nil, r, _ => by cases r; exact ⟨[], .nil, by simp⟩
  | _, _, _, .cons h t, .cons r1 r2, g => by
    simp only [realAlls, Bool.and_eq_true] at g
    obtain ⟨as, h1, h2⟩ := reads_of I c h r1 g.1
    obtain ⟨bs, h3, h4⟩ := readsAll_of I c t r2 g.2
    exact ⟨as ++ bs, .cons h1 h3, by simp [h2, h4]⟩
theorem readsKv_of (I : Inv X pins σ H s) (c : CG X) : ∀ {kvs : List (Key × V)} {vs : List (Key × Value)} {es : List DictEntry} {ds : List (PyData × PyData)}, DtKv X.K mu H kvs ds → KV kvs vs → Pairs (mixKind X.prog X.w) es vs → realKvs ds = true →
    ∃ as bs, ReadsAll s.heap (es.map (·.key)) (ds.map (·.1)) as ∧ ReadsAll s.heap (es.map (·.val)) (ds.map (·.2)) bs ∧ sysModules ∉ as ∧ sysModules ∉ bs
  | _, _, _, _, .nil, r, p, _ => by cases r; cases p; exact ⟨[], [], .nil, .nil, by simp, by simp⟩
  | _, _, _, _, .cons (k := k) (d := d) (ds := dr) h t, .cons (b := q) r1 r2, .cons p1 p2 p3, g => by
    obtain ⟨k', u⟩ := q
    obtain ⟨e1, r1⟩ := r1
    have e1' : k = k' := e1
    subst e1'
    have g' : realAll d = true ∧ realKvs dr = true := by
      cases k with
      | inl i => simpa [kD, realKvs] using g
      | inr x => simpa [kD, realKvs] using g
    obtain ⟨as, bs, h1, h2, h3, h4⟩ := readsKv_of I c t r2 p3 g'.2
    obtain ⟨cs, h5, h6⟩ := reads_of I c h r1 g'.1
    rw [List.map_cons, List.map_cons, List.map_cons, List.map_cons, p2]
    refine ⟨as, cs ++ bs, ?_, .cons h5 h2, h3, by simp [h6, h4]⟩
    rcases keyIs_shape p1 with ⟨i, t, e3, e4⟩ | ⟨x, t, e3, e4⟩
    · have e3' : k = Sum.inl i := e3
      subst e3'
      rw [e4]
      exact .cons (as := []) (.int i t) h1
    · have e3' : k = Sum.inr x := e3
      subst e3'
      rw [e4]
      exact .cons (as := []) (.str x t) h1
end
end
section
variable {X : Cx}
/-- what repr wants and gives -/
def rRepr (K : PySem.W.Frag) : List V → Hp → VK → Prop := fun xs H Q => ∃ mu d, DtAll K mu H xs [d] ∧ (d.showable && realAll d && decide (d.shown.length ≤ sizeLine) && decide (d.depth ≤ 60)) = true ∧ Q (.str d.shown) H
theorem call_repr (c : CG X) : CallR X (.builtin "repr") (rRepr X.K) := by
  intro pins s σ H xs us Q I r h
  obtain ⟨mu, d, t, g, q⟩ := h
  simp only [Bool.and_eq_true, decide_eq_true_eq] at g
  obtain ⟨⟨⟨g1, g2⟩, g3⟩, g4⟩ := g
  cases t with
  | cons h t =>
  cases t
  cases r with
  | cons r1 r2 =>
  cases r2
  obtain ⟨as, h1, h2⟩ := reads_of I c h r1 g2
  have out : ∀ {s' : Shared} {t : Tok}, Inv X pins σ H s' → EP X pins σ Q (.str d.shown t) s' := fun {s' t} I' => ⟨.str d.shown, H, I', ⟨t, rfl⟩, q⟩
  cases h1 with
  | none => exact P.repr_of_none (out (I.tok _))
  | bool b => exact P.repr_of_bool (by have z := out (t := s.toks) (I.tok (s.toks + 1)); simpa [PyData.shown] using z)
  | int i t => exact P.repr_of_int (by simpa [PyData.showable] using g1) (by have z := out (t := s.toks) (I.tok (s.toks + 1)); simpa [PyData.shown] using z)
  | str x t => exact P.repr_of_str (by have z := out (t := s.toks) (I.tok (s.toks + 1)); simpa [PyData.shown] using z) (by simpa [PyData.shown] using g3)
  | list a1 a2 a3 a4 => exact repr_of_reads' (.list a1 a2 a3 a4) g1 (fun _ => h2) c.gd (by have := c.un; omega) (fun _ _ e => e) (fun h' u tk hk => out (I.kept hk)) g3
  | tuple a1 a2 a3 a4 => exact repr_of_reads' (.tuple a1 a2 a3 a4) g1 (fun _ => h2) c.gd (by have := c.un; omega) (fun _ _ e => e) (fun h' u tk hk => out (I.kept hk)) g3
  | dict a1 a2 a3 a4 a5 => exact repr_of_reads' (.dict a1 a2 a3 a4 a5) g1 (fun _ => h2) c.gd (by have := c.un; omega) (fun _ _ e => e) (fun h' u tk hk => out (I.kept hk)) g3
theorem ok_repr {K : PySem.W.Frag} : CallOk K (rRepr K) gRepr := fun mu H xs ds d Q _ t e k => by
  unfold gRepr at e
  split at e
  · split at e
    case isFalse => cases e
    rename_i hg
    cases e
    exact ⟨mu, _, t, hg, k _ H (fun _ _ z => z) (.str _)⟩
  · cases e
end
end Dl

/-! ### the law's own call -/
namespace Dl
open PySem PySem.Spec PyProof.Rows L2
section
variable {P : Program} {w : World} {K : PySem.W.Frag} {mg : Str → Option Value} {base : Heap}
/-- a body of data run at the values handed in -/
theorem lf_start {N : List Str} {n : Nat} {b : DS} {vs : List V} {H : Hp} {Q : VK} {E : XK} (h : spP K (fnP N n b) vs H Q E) : ∃ Z : Par, lfS K Z b { nx := fun _ H' => Q .non H', rt := Q } (L2.start N vs) H := by
  obtain ⟨mu, ds, d, h1, h2, h3, h4⟩ := h
  unfold fnP at h3
  split at h3
  case isFalse => cases h3
  refine ⟨⟨H, [], mu, .nil⟩, [], startS N ds, ?_⟩
  have back : ∀ a, Mu ⟨H, [], mu, .nil⟩ [] a → mu a := fun a q => q.elim id fun q => q.elim (fun z => by cases z) fun z => by cases z
  have r : Rel K ⟨H, [], mu, .nil⟩ [] (L2.start N vs) H (startS N ds) := by
    refine ⟨fun _ _ e _ => e, fun _ ha => (by cases ha), h1, fun _ ha => (by cases ha), ?_⟩
    unfold startS L2.start
    rw [h2.len]
    exact slAll_start _ (h2.mono fun a o e n => ⟨e, fun z => n (back a z)⟩)
  have keep : ∀ {M : List Addr} {σ : L2.St} {H1 : Hp} {s1 : Sl}, Rel K ⟨H, [], mu, .nil⟩ M σ H1 s1 → ∀ a o, H a = some o → H1 a = some o := fun r1 a o e => r1.base a o e fun z => by cases z
  unfold outP at h3
  split at h3
  · rename_i d1 s1 hq
    cases h3
    exact ⟨_, r, hq, fun M σ H1 v k1 r1 t1 => h4 v H1 (keep r1) (t1.mono fun a o e n => ⟨e, fun z => n (.inl z)⟩)⟩
  · rename_i s1 hq
    cases h3
    exact ⟨_, r, hq, fun M σ H1 k1 r1 => h4 _ H1 (keep r1) .non⟩
  · cases h3
/-- a def of data, called where all around is known -/
theorem run_here {x p : Str} {st : Stmt} {f : Addr} {fd : FuncData} {N : List Str} {k : Nat} {b : DS} {A : Around} {outer : List Env} {s : Shared} {H : Hp} {u : Value} {v : V} {Q : VK}
    (F : Fun K x x st f fd) (S : FnScope N [p] (defScope st)) (room : Room (k + 1) A) (e0 : Env0 P w K mg base A outer s H) (bt : BindsTo s fd ⟨[u], []⟩ [(p, u)]) (rv : RelV v u)
    (hb : ∀ (cdv : Value) (Z : Par), Room k (A.deeper (envOfC x (defScope st) s.heap.objs.size f cdv)) → PSs (cxOf CX0 P w K mg base N x (defScope st) f cdv A outer s H E0).nox (defBody st) (lfS K Z b)) (q : spP K (fnP N 1 b) [v] H Q E0) :
    codeAny (model P w) A (.call (.ref f) ⟨[u], []⟩) (CR CX0 outer P w H s Q E0) s := by
  obtain ⟨⟨oc, od, kV, doc, pm, an, cdv, ct, osl, e1, lk, hcd⟩, kp⟩ := F
  subst e1
  have keeps : ∀ b o, base.get? b = some o → s.heap.get? b = some o := fun b o e => (e0.bs b o e).1
  have In := e0.mod.kin.keeps keeps
  have slots : ∀ y ∈ [(p, u)], (defScope st).names.lookup y.1 = some .local ∨ ((defScope st).names.lookup y.1 = some .cell ∧ ((cellsFrom (s.heap.objs.size + 1) (defScope st).names []).lookup y.1).isSome = true) := fun y hy => by
    obtain rfl := List.mem_singleton.mp hy
    exact (S.par p (List.mem_singleton.mpr rfl)).imp id fun z => ⟨z, PySem.W.cellsFrom_some _ _ _ (.inl z)⟩
  refine codeAny_call_function room.depth (In _ _ lk) rfl S.co S.gen rfl (PySem.W.codeRec_of In hcd) (bt _ _ _ _ (wpAny_newFunctionEnv_cells S.kind slots fun env he t0 io => ?_))
  cases he
  refine ⟨(e0.mod.nolimit.keeps keeps).keeps io.toInCall.keep, codeAny_func ?_⟩
  obtain ⟨Z, ready⟩ := lf_start q
  have begun : Inv (cxOf CX0 P w K mg base N x (defScope st) f cdv A outer s H E0) [] (L2.start N [v]) H t0 := inv_start S room.hd e0 rfl (.cons rv .nil) io
  refine wpAny_mono ((hb cdv Z (room.deeper _)).nox.run [] t0 _ H _ begun ready) (fun fl t1 done => ?_) fun _ _ z => z
  have close : ∀ {τ : L2.St} {H1 : Hp} {x1 : V} {y1 : Value}, Inv (cxOf CX0 P w K mg base N x (defScope st) f cdv A outer s H E0) [] τ H1 t1 → RelV x1 y1 → Q x1 H1 → CE outer P w H s Q y1 t1 := fun {_ H1 x1 _} J a c => ⟨x1, H1, J.os, J.bare, J.base, J.hok, a, c⟩
  match fl, done with
  | .ret _, ⟨_, _, _, J, a, c⟩ => exact close J a c
  | .next, ⟨_, _, J, c⟩ => exact close (x1 := V.non) J rfl c
  | .brk, ⟨_, _, _, z⟩ => exact z.elim
  | .cont, ⟨_, _, _, z⟩ => exact z.elim
end
end Dl
namespace Dl
open PySem PySem.Spec PyProof.Rows L2
section
variable {P : Program} {w : World} {K : PySem.W.Frag} {mg mb : Str → Option Value}
/-- the script as the law finds it: the caller's own list, or one of the module's -/
theorem script_in {h : Heap} {a : Addr} {vs : List Value} {ns : List Int} (KX : K.In h) (ha : h.get? a = some { cls := .type "list", data := .seq vs.toArray }) (hi : IntsAre vs ns) (few : ns.length ≤ sizeLine) :
    ∃ H : Hp, HOk P w H h ∧ (∀ b u, H b = some u → b = a ∧ K.lookup a = none ∧ ∃ o u', u = .frz o u') ∧ ((Rd H a (.lst (ns.map V.int))) ∨ ∀ H', SqL K H' a (ns.map V.int)) := by
  have rv := vals_ints hi
  have len : vs.length = ns.length := hi.length
  cases look : K.lookup a with
  | some o =>
    have same := KX a o look
    rw [ha] at same
    cases same
    refine ⟨fun _ => none, fun _ _ z => (by cases z), fun _ _ z => (by cases z), .inr fun H' => .inr ⟨_, vs.toArray, 0, look, rfl, rfl, rfl, by rw [List.size_toArray, len]; exact few, by simpa using rv⟩⟩
  | none =>
    let H : Hp := fun b => if b = a then some (.frz { cls := .type "list", data := .seq vs.toArray } (.lst (ns.map V.int))) else none
    have at_a : H a = some (.frz { cls := .type "list", data := .seq vs.toArray } (.lst (ns.map V.int))) := if_pos rfl
    have only : ∀ b u, H b = some u → b = a := fun b u z => by
      by_cases q : b = a
      · exact q
      · have n : H b = none := if_neg q
        rw [n] at z; cases z
    refine ⟨H, fun b u z => ?_, fun b u z => ⟨only b u z, rfl, ?_⟩, .inl (.inr ⟨_, at_a⟩)⟩
    · obtain rfl := only b u z
      rw [at_a] at z
      cases z
      exact ⟨ha, by rw [List.length_map]; exact few, vs, 0, rv, ha⟩
    · obtain rfl := only b u z
      rw [at_a] at z
      cases z
      exact ⟨_, _, rfl⟩
/-- the law's def of data, called at the script, where it gives True -/
theorem law_here {x p : Str} {st : Stmt} {fa a : Addr} {fd : FuncData} {N : List Str} {k : Nat} {b : DS} {s₁ : Shared} {vs : List Value} {ns : List Int}
    (KX : K.In s₁.heap) (hns : s₁.heap.Ns mainGlobals mg) (hbl : s₁.heap.Ns builtinsNs mb) (hbb : ∀ y : Str, y ≠ "__name__" → mb y = bootBuiltins y) (hlim : s₁.heap.NoLimit) (hmo : ∃ mm, s₁.heap.Ns sysModules mm) (hg : s₁.gens = #[])
    (ha : s₁.heap.get? a = some { cls := .type "list", data := .seq vs.toArray }) (hi : IntsAre vs ns) (few : ns.length ≤ sizeLine) (room : Room (k + 1) callerA) (F : Fun K x x st fa fd) (S : FnScope N [p] (defScope st)) (bt : ∀ (s : Shared) (u : Value), BindsTo s fd ⟨[u], []⟩ [(p, u)])
    (body : ∀ (base : Heap) (cdv : Value) (s : Shared) (H : Hp) (Z : Par), Mod K mg base → Room k (callerA.deeper (envOfC x (defScope st) s.heap.objs.size fa cdv)) → CG (cxOf CX0 P w K mg base N x (defScope st) fa cdv callerA [] s H E0).nox →
      PSs (cxOf CX0 P w K mg base N x (defScope st) fa cdv callerA [] s H E0).nox (defBody st) (lfS K Z b))
    (true_ : fnP N 1 b [.dict [(.none, .list (ns.map .int))]] = some (.bool true)) :
    codeAny (model P w) callerA (.call (.ref fa) ⟨[.ref a], []⟩) (fun r s' => r = .ok (.ret (.bool true)) ∧ OldK s₁.heap s'.heap ∧ s'.os = s₁.os ∧ AllBare s'.gens) s₁ := by
  obtain ⟨H, hok, hH, here⟩ := script_in (P := P) (w := w) KX ha hi few
  have dict_free : ∀ {c : Addr} {o : Obj} {es : Array DictEntry} {n : Nat}, s₁.heap.get? c = some o → o.data = .dict es n → H c = none := fun {c o es n} e d => by
    cases z : H c with
    | none => rfl
    | some u =>
      obtain ⟨rfl, _⟩ := hH c u z
      rw [ha] at e
      cases e
      exact absurd (show Data.seq vs.toArray 0 = Data.dict es n from d) (by simp)
  have ns_in : ∀ {c : Addr} {m : Str → Option Value}, s₁.heap.Ns c m → (hidT s₁.heap H).Ns c m := fun ⟨o, es, n, e, d, r⟩ => ⟨o, es, n, hidT_get e (dict_free e d), d, r⟩
  have mod : Mod K mg (hidT s₁.heap H) := {
    kin := fun c o e => hidT_get (KX c o e) (by
      cases z : H c with
      | none => rfl
      | some u =>
        obtain ⟨rfl, q, _⟩ := hH c u z
        rw [q] at e; cases e)
    glob := ns_in hns
    blt := ⟨mb, ns_in hbl, hbb⟩
    nolimit := let ⟨mc, q1, q2⟩ := hlim; ⟨mc, ns_in q1, q2⟩ }
  have e0 : Env0 P w K mg (hidT s₁.heap H) callerA [] s₁ H := ⟨rfl, mod, fun _ _ e => of_hidT e, by rw [hidT_size]; exact Nat.le_refl _, trivial, fun c hc => (by cases hc), hok, .of_eq hg⟩
  have sys : ∃ o es n, (hidT s₁.heap H).get? sysModules = some o ∧ o.data = .dict es n := by
    obtain ⟨mm, o, es, n, e, d, _⟩ := hmo
    exact ⟨o, es, n, hidT_get e (dict_free e d), d⟩
  have t : Dt K (fun _ => False) H (.ref a) (.dict [(.none, .list (ns.map .int))]) := .scr (here.imp (fun z => ⟨z, fun z => z⟩) id) (dtAll_ints ns)
  refine codeAny_mono (run_here (v := .ref a) (Q := fun v _ => v = .bl true) F S room e0 (bt s₁ (.ref a)) rfl (fun cdv Z r => body _ cdv s₁ H Z mod r ⟨rfl, by show 4 + 3 + 100 < 9900; omega, sys⟩)
    ⟨fun _ => False, _, _, fun _ z => z.elim, .cons t .nil, true_, fun v H' _ tv => tv.bool⟩) fun r s' done => ?_
  match r, done with
  | .ok (.ret u), ⟨v, H', os, bare, un, ok', rv, q⟩ =>
    subst q
    obtain rfl : u = .bool true := rv
    refine ⟨rfl, OldK.of_keep fun c o e => ?_, os, bare⟩
    cases z : H c with
    | none => exact un.keep c o e z (by simp [frs]) (by simp)
    | some u =>
      obtain ⟨rfl, _, o', u', rfl⟩ := hH c u z
      have stay := (ok' c _ (un.frzs c o' u' z)).1
      have was := (hok c _ z).1
      rw [was] at e
      cases e
      exact stay
  | .ok .next, z => exact z.elim
  | .ok .brk, z => exact z.elim
  | .ok .cont, z => exact z.elim
  | .error e, z => exact (show False from z).elim
end
end Dl

/-! ### a law's head: what the top has written, by names -/
namespace Dl
open PySem PySem.Spec PyProof.Rows L2
mutual
/-- the value u of the module reads as the tree d -/
def rdB (K : PySem.W.Frag) : PyData → Value → Bool
  | .none, .none => true
  | .bool b, .bool c => decide (b = c)
  | .int i, .int j _ => decide (i = j)
  | .str x, .str y _ => decide (x = y)
  | .tuple ds, .ref a => match K.lookup a with
    | some ⟨.type t, _, .seq its _, _⟩ => decide (t = "tuple") && (decide (its.size ≤ sizeLine) && (keyless ds && rdBs K ds its.toList))
    | _ => false
  | _, _ => false
def rdBs (K : PySem.W.Frag) : List PyData → List Value → Bool
  | [], [] => true
  | d :: ds, u :: us => rdB K d u && rdBs K ds us
  | _, _ => false
end
mutual
theorem rdB_ok {K : PySem.W.Frag} : ∀ {d : PyData} {u : Value}, rdB K d u = true → ∃ v, RelV v u ∧ ∀ mu H, Dt K mu H v d
  | .none, u, h => by
    cases u <;> first | exact ⟨.non, rfl, fun _ _ => .non⟩ | (simp [rdB] at h)
  | .bool b, u, h => by
    cases u <;> first | (have e : b = _ := of_decide_eq_true h; subst e; exact ⟨.bl _, rfl, fun _ _ => .bl _⟩) | (simp [rdB] at h)
  | .int i, u, h => by
    cases u <;> first | (have e : i = _ := of_decide_eq_true h; subst e; exact ⟨.int _, ⟨_, rfl⟩, fun _ _ => .int _⟩) | (simp [rdB] at h)
  | .str x, u, h => by
    cases u <;> first | (have e : x = _ := of_decide_eq_true h; subst e; exact ⟨.str _, ⟨_, rfl⟩, fun _ _ => .str _⟩) | (simp [rdB] at h)
  | .tuple ds, u, h => by
    cases u with
    | ref a =>
      unfold rdB at h
      split at h
      · rename_i t od its n sl look
        simp only [Bool.and_eq_true, decide_eq_true_eq] at h
        obtain ⟨e, few, kl, h⟩ := h
        subst e
        obtain ⟨vs, r, t⟩ := rdBs_ok h
        exact ⟨.ref a, rfl, fun mu H => .tupK (fun H' => .inr ⟨_, its, n, look, rfl, rfl, few, r⟩) kl (t mu H)⟩
      · cases h
    | _ => simp [rdB] at h
  | .list ds, u, h => by cases u <;> simp [rdB] at h
  | .dict ds, u, h => by cases u <;> simp [rdB] at h
theorem rdBs_ok {K : PySem.W.Frag} : ∀ {ds : List PyData} {us : List Value}, rdBs K ds us = true → ∃ vs, Vals vs us ∧ ∀ mu H, DtAll K mu H vs ds
  | [], us, h => by
    cases us with
    | nil => exact ⟨[], .nil, fun _ _ => .nil⟩
    | cons => simp [rdBs] at h
  | d :: ds, us, h => by
    cases us with
    | nil => simp [rdBs] at h
    | cons u us =>
      simp only [rdBs, Bool.and_eq_true] at h
      obtain ⟨v, r1, t1⟩ := rdB_ok h.1
      obtain ⟨vs, r2, t2⟩ := rdBs_ok h.2
      exact ⟨v :: vs, .cons r1 r2, fun mu H => .cons (t1 mu H) (t2 mu H)⟩
end
def gcB (K : PySem.W.Frag) (c : Str × PyData) : Bool := match PySem.W.nsIn K mainGlobals c.1 with
  | some (some u) => rdB K c.2 u
  | _ => false
theorem gc_ok {K : PySem.W.Frag} {h : Heap} {mg : Str → Option Value} (X : K.In h) (G : h.Ns mainGlobals mg) {x : Str} {d : PyData} (c : gcB K (x, d) = true) : GC K mg x d := by
  unfold gcB at c
  split at c
  · rename_i u e
    obtain ⟨v, r, t⟩ := rdB_ok c
    exact ⟨u, v, PySem.W.mg_of X G e, r, t⟩
  · cases c
/-! ### the head's facts: built-ins' names free, defs, constants -/
def dOf (x : Str) (st : Stmt) : He.DefD := ⟨(x, none), x, x, defArgs st, defBody st, defScope st, [], []⟩
def obsM (n : Nat) (fa : List He.Fa) (fn : List He.DefD) (cs : List (Str × PyData)) (g : Addr → Option Obj) : Bool × He.AlD :=
  (cs.all (gcB (He.frG g (He.asD g n))), He.obsDG n fa fn g)
def hookM (n : Nat) (fa : List He.Fa) (fn : List He.DefD) (cs : List (Str × PyData)) : PySem.W.Hook where
  α := Bool × He.AlD
  obs := fun s => obsM n fa fn cs s.heap.get?
  val := fun _ => (true, He.valD fn)
  says := fun _ h => ∃ K : PySem.W.Frag, K.In h ∧ He.SaysD fa fn K ∧ cs.all (gcB K) = true
  of := fun _ _ e => ⟨_, He.frG_in, congrArg Prod.snd e, congrArg Prod.fst e⟩
  keeps := fun _ _ _ ⟨K, X, c⟩ k => ⟨K, PySem.W.Frag.In.keeps X k, c⟩
theorem obsM_eq {n : Nat} {fa : List He.Fa} {fn : List He.DefD} {cs : List (Str × PyData)} {g : Addr → Option Obj} {s : Shared} (h : ∀ a, g a = s.heap.get? a) : obsM n fa fn cs g = (hookM n fa fn cs).obs s := by
  obtain rfl : g = s.heap.get? := funext h
  rfl
section
variable {K : PySem.W.Frag} {h : Heap} {mg : Str → Option Value} {fa : List He.Fa} {fn : List He.DefD} {cs : List (Str × PyData)}
theorem const_of (X : K.In h) (G : h.Ns mainGlobals mg) (c : cs.all (gcB K) = true) (i : Nat) {x : Str} {d : PyData} (at_ : cs[i]? = some (x, d) := by rfl) : GC K mg x d :=
  gc_ok X G (List.all_eq_true.mp c _ (List.mem_of_getElem? at_))
theorem free_of (X : K.In h) (G : h.Ns mainGlobals mg) (c : He.SaysD fa fn K) (i : Nat) {x : Str} (at_ : fa[i]? = some (.free x) := by rfl) : mg x = none := He.free_ok X G (c.fact i at_)
theorem std_of (X : K.In h) (G : h.Ns mainGlobals mg) (c : He.SaysD fa fn K) (i j : Nat) {x : Str} {st : Stmt} {ps : List Str} (at_ : fn[i]? = some (dOf x st)) (gl : fa[j]? = some (.glo x))
    (bind : ∀ (kV doc pm : Value) (an : Option Addr) (cdv ct : Value) (us : List Value), us.length = ps.length → bindArgs (PySem.W.fnOf x x (defArgs st) (defBody st) (defScope st) .none kV doc pm an cdv ct) ⟨us, []⟩ = pure (ps.zip us)) : Std K mg x st ps := by
  obtain ⟨fd, F⟩ := c.def_ i at_
  have F' : Fun K x x st (He.ga K x) fd := He5.fun_of F
  exact ⟨_, fd, F', He.glo_ok X G (c.fact j gl), F'.binds bind⟩
end
/-- the law walked: what is asked of the program is that its meaning at each script is True -/
theorem walk_data {l : PySem.W.OpenLaw} {n k : Nat} {q : Program} {loose : List Str} {XP : (Str → Option Value) → Heap → Prop} {d : DefRec} {fa : List He.Fa} {fn : List He.DefD} {cs : List (Str × PyData)} {m : Nat} {x p : Str} {st : Stmt} {N : List Str} {b : DS}
    (most : l.most = some n) (few : n ≤ sizeLine) (hdf : d.params.defaults = []) (name : d.name = x) (alone : importsNone q = true) (room : Room (k + 1) callerA) (S : FnScope N [p] (defScope st))
    (F : ∀ (w : World) (mg : Str → Option Value) (h : Heap) (K : PySem.W.Frag), K.In h → h.Ns mainGlobals mg → He.SaysD fa fn K → cs.all (gcB K) = true → ∃ (f : Addr) (fd : FuncData), mg x = some (.ref f) ∧ Fun K x x st f fd ∧ (∀ (s : Shared) (u : Value), BindsTo s fd ⟨[u], []⟩ [(p, u)]) ∧
      ∀ (base : Heap) (cdv : Value) (s : Shared) (H : Hp) (Z : Par), Mod K mg base → Room k (callerA.deeper (envOfC x (defScope st) s.heap.objs.size f cdv)) → CG (cxOf CX0 l.prog w K mg base N x (defScope st) f cdv callerA [] s H E0).nox →
        PSs (cxOf CX0 l.prog w K mg base N x (defScope st) f cdv callerA [] s H E0).nox (defBody st) (lfS K Z b))
    (T : ∀ ns : List Int, ns.length ≤ n → fnP N 1 b [.dict [(.none, .list (ns.map .int))]] = some (.bool true)) :
    PySem.W.WalkO q loose XP (hookM m fa fn cs).says l.row.toRowW d [] (fun f vs => PySem.call f vs) := by
  refine Att.attach_call most hdf fun w s₀ s₁ mg mb f o pm cd doc a vs ns G Y _ _ _ hmg hobj hints hlen hg => ?_
  obtain ⟨K, X, c1, c2⟩ := Y
  obtain ⟨f', fd, e, Fn, bt, body⟩ := F w mg _ K X G.T.g c1 c2
  rw [name] at hmg
  cases e.symm.trans hmg
  obtain ⟨mm, sees, _⟩ := (G.T.seer alone).mods
  exact law_here X G.T.g G.T.b G.T.builtins G.T.nolimit ⟨mm, sees⟩ hg hobj hints (Nat.le_trans hlen few) room Fn S bt body (T ns hlen)
end Dl

/-! ### what a meaning gives: rules from the outside in -/
namespace Dl
open PySem PySem.Spec PyProof.Rows L2
structure Gd {α : Type} (o : Option α) (Q : α → Prop) : Prop where
  ex : ∃ a, o = some a ∧ Q a
structure Ge {α : Type} (o : Option (α × Sl)) (Q : α → Sl → Prop) : Prop where
  ex : ∃ a s, o = some (a, s) ∧ Q a s
structure Gs (o : Option Fl) (N : Sl → Prop) (R : PyData → Sl → Prop) : Prop where
  ex : (∃ s, o = some (.nx s) ∧ N s) ∨ ∃ d s, o = some (.rt d s) ∧ R d s
section
variable {α β : Type} {Q : PyData → Sl → Prop} {QA : List PyData → Sl → Prop} {QT : Bool → Sl → Prop} {N : Sl → Prop} {R : PyData → Sl → Prop} {s : Sl} {i j : Nat} {d : PyData} {fa fb fc : DE} {ga gb : DA} {ff : DF} {t t' : DT} {f g : DS} {D : PyData → Prop}
theorem gd {o : Option α} {a : α} {q : α → Prop} (e : o = some a) (h : q a) : Gd o q := ⟨a, e, h⟩
theorem gd_mono {o : Option α} {q r : α → Prop} (h : Gd o q) (k : ∀ a, q a → r a) : Gd o r := by
  obtain ⟨a, e, h⟩ := h
  exact ⟨a, e, k a h⟩
theorem ge_mono {o : Option (α × Sl)} {q r : α → Sl → Prop} (h : Ge o q) (k : ∀ a s, q a s → r a s) : Ge o r := by
  obtain ⟨a, s, e, h⟩ := h
  exact ⟨a, s, e, k a s h⟩
theorem gs_mono {o : Option Fl} {N' : Sl → Prop} {R' : PyData → Sl → Prop} (h : Gs o N R) (k : ∀ s, N s → N' s) (l : ∀ d s, R d s → R' d s) : Gs o N' R' := by
  obtain ⟨⟨s, e, h⟩ | ⟨d, s, e, h⟩⟩ := h
  · exact ⟨.inl ⟨s, e, k s h⟩⟩
  · exact ⟨.inr ⟨d, s, e, l d s h⟩⟩
theorem e_var (h : s[i]? = some (.dat d)) (k : Q d s) : Ge (dVar i s) Q := ⟨d, s, by unfold dVar; rw [h], k⟩
theorem e_c (k : Q d s) : Ge (dC d s) Q := ⟨d, s, rfl, k⟩
theorem e_op {g : PyData → PyData → Option PyData} (h : Ge (fa s) fun a s1 => Ge (fb s1) fun b s2 => Gd (g a b) fun d => Q d s2) : Ge (dOp g fa fb s) Q := by
  obtain ⟨a, s1, e1, b, s2, e2, d, e3, k⟩ := h
  exact ⟨d, s2, by unfold dOp; rw [e1, Option.bind_some, e2, Option.bind_some, e3]; rfl, k⟩
theorem e_un {g : PyData → Option PyData} (h : Ge (fa s) fun a s1 => Gd (g a) fun d => Q d s1) : Ge (dUn g fa s) Q := by
  obtain ⟨a, s1, e1, d, e3, k⟩ := h
  exact ⟨d, s1, by unfold dUn; rw [e1, Option.bind_some, e3]; rfl, k⟩
theorem e_chain {g g' : PyData → PyData → Option PyData} (h : Ge (fa s) fun a s1 => Ge (fb s1) fun b s2 => Gd (g a b) fun c => (c = .bool true ∧ Ge (fc s2) fun w s3 => Gd (g' b w) fun d => Q d s3) ∨ (c = .bool false ∧ Q (.bool false) s2)) : Ge (dChain g g' fa fb fc s) Q := by
  obtain ⟨a, s1, e1, b, s2, e2, c, e3, ⟨rfl, w, s3, e4, d, e5, k⟩ | ⟨rfl, k⟩⟩ := h
  · exact ⟨d, s3, by unfold dChain; rw [e1, Option.bind_some, e2, Option.bind_some, e3, Option.bind_some]; simp only [e4, Option.bind_some, e5, Option.map_some], k⟩
  · exact ⟨_, s2, by unfold dChain; rw [e1, Option.bind_some, e2, Option.bind_some, e3, Option.bind_some], k⟩
theorem e_l (h : Ge (ff s) fun ds s1 => Q (.list ds) s1) : Ge (dL ff s) Q := by
  obtain ⟨ds, s1, e, k⟩ := h
  exact ⟨_, s1, by unfold dL; rw [e]; rfl, k⟩
theorem e_b {g : List PyData → Option PyData} (h : Ge (ga s) fun ds s1 => Gd (g ds) fun d => Q d s1) : Ge (dB g ga s) Q := by
  obtain ⟨ds, s1, e, d, e2, k⟩ := h
  exact ⟨d, s1, by unfold dB; rw [e, Option.bind_some, e2]; rfl, k⟩
theorem e_tup (h : Ge (ga s) fun ds s1 => ds.length ≤ sizeLine ∧ Q (.tuple ds) s1) : Ge (dTup ga s) Q := by
  obtain ⟨ds, s1, e, l, k⟩ := h
  exact ⟨_, s1, by unfold dTup; rw [e, Option.bind_some, if_pos l], k⟩
theorem e_call {m : List PyData → Option PyData} (h : Ge (ga s) fun ds s1 => Gd (m ds) fun d => Q d s1) : Ge (dCall m ga s) Q := by
  obtain ⟨ds, s1, e, d, e2, k⟩ := h
  exact ⟨d, s1, by unfold dCall; rw [e, Option.bind_some, e2]; rfl, k⟩
theorem e_callM {m : List PyData → List PyData → Option (PyData × List PyData)} {p0 : List PyData} (c : contents s i = some p0) (h : Ge (ga s) fun ds s1 => ∃ pd, contents s1 i = some pd ∧ Gd (m pd ds) fun q => Q q.1 (setC s1 i q.2)) : Ge (dCallM m i ga s) Q := by
  obtain ⟨ds, s1, e, pd, e2, q, e3, k⟩ := h
  exact ⟨_, _, by unfold dCallM; rw [c, Option.bind_some, e, Option.bind_some, e2, Option.bind_some, e3]; rfl, k⟩
theorem e_ixc {p0 : List PyData} (c : contents s i = some p0) (h : Ge (fa s) fun k s1 => ∃ (n : Int) (ds : List PyData), k = .int n ∧ contents s1 i = some ds ∧ Gd (atI ds n) fun d => Q d s1) : Ge (dIxC i fa s) Q := by
  obtain ⟨k, s1, e, n, ds, rfl, e2, d, e3, q⟩ := h
  exact ⟨d, s1, by unfold dIxC; rw [c, Option.bind_some, e, Option.bind_some, e2, Option.bind_some]; simp only [e3, Option.map_some], q⟩
theorem e_and (h : Ge (fa s) fun a s1 => ∃ b, a = .bool b ∧ ((b = true ∧ Ge (fb s1) Q) ∨ (b = false ∧ Q (.bool false) s1))) : Ge (dAnd fa fb s) Q := by
  obtain ⟨a, s1, e, b, rfl, ⟨rfl, d, s2, e2, k⟩ | ⟨rfl, k⟩⟩ := h
  · exact ⟨d, s2, by unfold dAnd dTst; rw [e]; simp only [Option.bind_some, if_true, e2], k⟩
  · exact ⟨_, s1, by unfold dAnd dTst; rw [e]; simp, k⟩
theorem e_or (h : Ge (fa s) fun a s1 => ∃ b, a = .bool b ∧ ((b = true ∧ Q (.bool true) s1) ∨ (b = false ∧ Ge (fb s1) Q))) : Ge (dOr fa fb s) Q := by
  obtain ⟨a, s1, e, b, rfl, ⟨rfl, k⟩ | ⟨rfl, d, s2, e2, k⟩⟩ := h
  · exact ⟨_, s1, by unfold dOr dTst; rw [e]; simp, k⟩
  · exact ⟨d, s2, by unfold dOr dTst; rw [e]; simp [e2], k⟩
theorem e_not (h : Ge (fa s) fun a s1 => ∃ b, a = .bool b ∧ Q (.bool (!b)) s1) : Ge (dNot fa s) Q := by
  obtain ⟨a, s1, e, b, rfl, k⟩ := h
  exact ⟨_, s1, by unfold dNot dTst; rw [e]; rfl, k⟩
theorem e_if (h : Ge (t s) fun b s1 => (b = true ∧ Ge (fa s1) Q) ∨ (b = false ∧ Ge (fb s1) Q)) : Ge (dIf t fa fb s) Q := by
  obtain ⟨b, s1, e, ⟨rfl, d, s2, e2, k⟩ | ⟨rfl, d, s2, e2, k⟩⟩ := h
  · exact ⟨d, s2, by unfold dIf; rw [e]; simp [e2], k⟩
  · exact ⟨d, s2, by unfold dIf; rw [e]; simp [e2], k⟩
theorem e_sl {lo hi : DO} (h : Ge (fa s) fun a s1 => Ge (lo s1) fun l s2 => Ge (hi s2) fun r s3 => Gd (gSl a l r) fun d => Q d s3) : Ge (dSl fa lo hi s) Q := by
  obtain ⟨a, s1, e1, l, s2, e2, r, s3, e3, d, e4, k⟩ := h
  exact ⟨d, s3, by unfold dSl; rw [e1, Option.bind_some, e2, Option.bind_some, e3, Option.bind_some, e4]; rfl, k⟩
theorem o_n {q : Option Int → Sl → Prop} (k : q none s) : Ge (oN s) q := ⟨none, s, rfl, k⟩
theorem o_s {q : Option Int → Sl → Prop} (h : Ge (fa s) fun a s1 => ∃ n : Int, a = .int n ∧ q (some n) s1) : Ge (oS fa s) q := by
  obtain ⟨a, s1, e, n, rfl, k⟩ := h
  exact ⟨some n, s1, by unfold oS; rw [e]; rfl, k⟩
theorem a_nil (k : QA [] s) : Ge (aNil s) QA := ⟨[], s, rfl, k⟩
theorem a_cons (h : Ge (fa s) fun a s1 => Ge (ga s1) fun r s2 => QA (a :: r) s2) : Ge (aCons fa ga s) QA := by
  obtain ⟨a, s1, e1, r, s2, e2, k⟩ := h
  exact ⟨_, s2, by unfold aCons; rw [e1, Option.bind_some, e2]; rfl, k⟩
theorem f_lst (h : Ge (ga s) fun ds s1 => ds.length ≤ sizeLine ∧ QA ds s1) : Ge (fLst ga s) QA := by
  obtain ⟨ds, s1, e, l, k⟩ := h
  exact ⟨ds, s1, by unfold fLst; rw [e, Option.bind_some, if_pos l], k⟩
theorem f_call {m : List PyData → Option (List PyData)} (h : Ge (ga s) fun ds s1 => Gd (m ds) fun d => QA d s1) : Ge (fCall m ga s) QA := by
  obtain ⟨ds, s1, e, d, e2, k⟩ := h
  exact ⟨d, s1, by unfold fCall; rw [e, Option.bind_some, e2]; rfl, k⟩
theorem f_itA (h : Ge (fa s) fun a s1 => (∃ ds, (a = .list ds ∨ a = .tuple ds) ∧ QA ds s1) ∨ ∃ x, a = .str x ∧ QA (signs x) s1) : Ge (itA fa s) QA := by
  obtain ⟨a, s1, e, ⟨ds, rfl | rfl, k⟩ | ⟨x, rfl, k⟩⟩ := h
  · exact ⟨ds, s1, by unfold itA; rw [e]; rfl, k⟩
  · exact ⟨ds, s1, by unfold itA; rw [e]; rfl, k⟩
  · exact ⟨_, s1, by unfold itA; rw [e]; rfl, k⟩
theorem f_r1 (h : Ge (fa s) fun a s1 => ∃ n : Int, a = .int n ∧ 0 ≤ n ∧ n < 2 ^ 62 ∧ QA (rng 0 n) s1) : Ge (itR1 fa s) QA := by
  obtain ⟨a, s1, e, n, rfl, l1, l2, k⟩ := h
  exact ⟨_, s1, by unfold itR1; rw [e, Option.bind_some]; simp only; rw [if_pos ⟨by omega, l2⟩], k⟩
theorem t_tst (h : Ge (fa s) fun a s1 => ∃ b, a = .bool b ∧ QT b s1) : Ge (dTst fa s) QT := by
  obtain ⟨a, s1, e, b, rfl, k⟩ := h
  exact ⟨b, s1, by unfold dTst; rw [e]; rfl, k⟩
theorem t_and (h : Ge (t s) fun b s1 => (b = true ∧ Ge (t' s1) QT) ∨ (b = false ∧ QT false s1)) : Ge (dAndT t t' s) QT := by
  obtain ⟨b, s1, e, ⟨rfl, b', s2, e2, k⟩ | ⟨rfl, k⟩⟩ := h
  · exact ⟨b', s2, by unfold dAndT; rw [e]; simp [e2], k⟩
  · exact ⟨_, s1, by unfold dAndT; rw [e]; simp, k⟩
theorem t_or (h : Ge (t s) fun b s1 => (b = true ∧ QT true s1) ∨ (b = false ∧ Ge (t' s1) QT)) : Ge (dOrT t t' s) QT := by
  obtain ⟨b, s1, e, ⟨rfl, k⟩ | ⟨rfl, b', s2, e2, k⟩⟩ := h
  · exact ⟨_, s1, by unfold dOrT; rw [e]; simp, k⟩
  · exact ⟨b', s2, by unfold dOrT; rw [e]; simp [e2], k⟩
theorem t_not (h : Ge (t s) fun b s1 => QT (!b) s1) : Ge (dNotT t s) QT := by
  obtain ⟨b, s1, e, k⟩ := h
  exact ⟨_, s1, by unfold dNotT; rw [e]; rfl, k⟩
theorem t_yes (k : QT true s) : Ge (tYesD s) QT := ⟨true, s, rfl, k⟩
theorem s_seq (h : Gs (f s) (fun s1 => Gs (g s1) N R) R) : Gs (sSeq f g s) N R := by
  obtain ⟨⟨s1, e, h⟩ | ⟨d, s1, e, h⟩⟩ := h
  · obtain ⟨⟨s2, e2, h⟩ | ⟨d, s2, e2, h⟩⟩ := h
    · exact ⟨.inl ⟨s2, by unfold sSeq; rw [e]; exact e2, h⟩⟩
    · exact ⟨.inr ⟨d, s2, by unfold sSeq; rw [e]; exact e2, h⟩⟩
  · exact ⟨.inr ⟨d, s1, by unfold sSeq; rw [e]; rfl, h⟩⟩
theorem s_nil (k : N s) : Gs (sNil s) N R := ⟨.inl ⟨s, rfl, k⟩⟩
theorem s_set (h : Ge (fa s) fun d s1 => N (s1.set i (.dat d))) : Gs (sSet i fa s) N R := by
  obtain ⟨d, s1, e, k⟩ := h
  exact ⟨.inl ⟨_, by unfold sSet; rw [e]; rfl, k⟩⟩
theorem s_own (h : Ge (ff s) fun d s1 => i < s1.length ∧ N (s1.set i (.own d))) : Gs (sOwn i ff s) N R := by
  obtain ⟨d, s1, e, l, k⟩ := h
  exact ⟨.inl ⟨_, by unfold sOwn; rw [e, Option.bind_some, if_pos l], k⟩⟩
theorem s_ret (h : Ge (fa s) fun d s1 => R d s1) : Gs (sRet fa s) N R := by
  obtain ⟨d, s1, e, k⟩ := h
  exact ⟨.inr ⟨d, s1, by unfold sRet; rw [e]; rfl, k⟩⟩
theorem s_if (h : Ge (t s) fun b s1 => (b = true ∧ Gs (f s1) N R) ∨ (b = false ∧ Gs (g s1) N R)) : Gs (sIf t f g s) N R := by
  obtain ⟨b, s1, e, ⟨rfl, h⟩ | ⟨rfl, h⟩⟩ := h
  · have q : sIf t f g s = f s1 := by unfold sIf; rw [e]; simp
    rw [q]; exact h
  · have q : sIf t f g s = g s1 := by unfold sIf; rw [e]; simp
    rw [q]; exact h
theorem s_frz {ds : List PyData} (h : s[i]? = some (.own ds)) (k : N (s.set i (.dat (.list ds)))) : Gs (sFrz i s) N R := ⟨.inl ⟨_, by unfold sFrz; rw [h], k⟩⟩
theorem s_app {p0 : List PyData} (c : contents s i = some p0) (h : Ge (fa s) fun d s1 => ∃ ds, contents s1 i = some ds ∧ ds.length < sizeLine ∧ N (setC s1 i (ds ++ [d]))) : Gs (sApp i fa s) N R := by
  obtain ⟨d, s1, e, ds, e2, l, k⟩ := h
  exact ⟨.inl ⟨_, by unfold sApp; rw [c, Option.bind_some, e, Option.bind_some, e2, Option.bind_some, if_pos l], k⟩⟩
theorem s_setIx (h : Ge (fa s) fun d s1 => ∃ p0, contents s1 i = some p0 ∧ Ge (fb s1) fun k s2 => ∃ (n : Int) (ds : List PyData), k = .int n ∧ contents s2 i = some ds ∧ Gd (ixN ds.length n) fun j => N (setC s2 i (ds.set j d))) : Gs (sSetIx i fa fb s) N R := by
  obtain ⟨d, s1, e, p0, e2, k, s2, e3, n, ds, rfl, e4, j, e5, q⟩ := h
  exact ⟨.inl ⟨_, by unfold sSetIx; rw [e, Option.bind_some, e2, Option.bind_some, e3, Option.bind_some, e4, Option.bind_some]; simp only [e5, Option.map_some], q⟩⟩
theorem s_asg {gdt : PyData → Sl → Option Sl} (h : Ge (fa s) fun d s1 => Gd (gdt d s1) N) : Gs (sAsg fa gdt s) N R := by
  obtain ⟨d, s1, e, s2, e2, k⟩ := h
  exact ⟨.inl ⟨s2, by unfold sAsg; rw [e, Option.bind_some, e2]; rfl, k⟩⟩
theorem s_par (h : Ge (fa s) fun a s1 => Ge (fb s1) fun b s2 => N ((s2.set i (.dat a)).set j (.dat b))) : Gs (sPar i j fa fb s) N R := by
  obtain ⟨a, s1, e1, b, s2, e2, k⟩ := h
  exact ⟨.inl ⟨_, by unfold sPar; rw [e1, Option.bind_some, e2]; rfl, k⟩⟩
/-- a loop by an invariant over what is left -/
theorem s_for {gdt : PyData → Sl → Option Sl} (I : List PyData → Sl → Prop) (h : Ge (ff s) fun ds s1 => I ds s1) (turn : ∀ d r s1, I (d :: r) s1 → ∃ s2, gdt d s1 = some s2 ∧ Gs (f s2) (fun s3 => I r s3) R) (done : ∀ s1, I [] s1 → N s1) : Gs (sFor ff gdt f s) N R := by
  obtain ⟨ds, s1, e, h⟩ := h
  have go : ∀ (ds : List PyData) (s1 : Sl), I ds s1 → Gs (runFor gdt f ds s1) N R := fun ds => by
    induction ds with
    | nil => intro s1 h; exact ⟨.inl ⟨s1, rfl, done s1 h⟩⟩
    | cons d r ih =>
      intro s1 h
      obtain ⟨s2, e2, b⟩ := turn d r s1 h
      obtain ⟨⟨s3, e3, h3⟩ | ⟨d3, s3, e3, h3⟩⟩ := b
      · have q : runFor gdt f (d :: r) s1 = runFor gdt f r s3 := by
          rw [runFor, e2, Option.bind_some, e3, Option.bind_some]
        rw [q]; exact ih s3 h3
      · exact ⟨.inr ⟨d3, s3, by rw [runFor, e2, Option.bind_some, e3, Option.bind_some], h3⟩⟩
  have q : sFor ff gdt f s = runFor gdt f ds s1 := by unfold sFor; rw [e]; rfl
  rw [q]
  exact go ds s1 h
/-- a comprehension by an invariant over what is left and what is made -/
theorem f_lc (I : List PyData → List PyData → Sl → Prop) (h : Ge (ff s) fun ds s1 => isNo s1[j]? = true ∧ ds.length < sizeLine ∧ I ds [] s1)
    (turn : ∀ d r m s1, I (d :: r) m s1 → Ge (t (s1.set j (.dat d))) fun b s2 => notOwn s2[j]? = true ∧ ((b = true ∧ Ge (fa s2) fun x s3 => notOwn s3[j]? = true ∧ I r (m ++ [x]) s3) ∨ (b = false ∧ I r m s2)))
    (done : ∀ m s1, I [] m s1 → QA m (s1.set j .no)) : Ge (fLc ff j t fa s) QA := by
  obtain ⟨ds, s1, e, n, l, h⟩ := h
  have go : ∀ (ds m : List PyData) (s1 : Sl), I ds m s1 → ∃ xs s2, lcRun j t fa ds s1 = some (xs, s2) ∧ QA (m ++ xs) (s2.set j .no) := fun ds => by
    induction ds with
    | nil => intro m s1 h; exact ⟨[], s1, rfl, by rw [List.append_nil]; exact done m s1 h⟩
    | cons d r ih =>
      intro m s1 h
      obtain ⟨b, s2, e2, n2, ⟨rfl, x, s3, e3, n3, h3⟩ | ⟨rfl, h3⟩⟩ := turn d r m s1 h
      · obtain ⟨xs, s4, e4, h4⟩ := ih _ s3 h3
        exact ⟨x :: xs, s4, by rw [lcRun, e2, Option.bind_some]; simp only [n2, if_true, e3, Option.bind_some, n3, e4, Option.map_some], by simpa using h4⟩
      · obtain ⟨xs, s4, e4, h4⟩ := ih _ s2 h3
        exact ⟨xs, s4, by rw [lcRun, e2, Option.bind_some]; simp [n2, e4], h4⟩
  obtain ⟨xs, s2, e2, h2⟩ := go ds [] s1 h
  exact ⟨xs, s2.set j .no, by unfold fLc; rw [e, Option.bind_some, if_pos ⟨n, l⟩, e2]; rfl, h2⟩
/-- a comprehension whose parts change nothing -/
theorem f_lc_pure (T : PyData → Bool) (F : PyData → PyData) (h : Ge (ff s) fun ds s1 => isNo s1[j]? = true ∧ ds.length < sizeLine ∧ (∀ d ∈ ds, Ge (t (s1.set j (.dat d))) (fun b s2 => b = T d ∧ s2 = s1.set j (.dat d)) ∧
      (T d = true → Ge (fa (s1.set j (.dat d))) fun x s2 => x = F d ∧ s2 = s1.set j (.dat d))) ∧ QA ((ds.filter T).map F) s1) : Ge (fLc ff j t fa s) QA := by
  obtain ⟨ds, s1, e, n, l, turn, k⟩ := h
  have hn := isNo_eq n
  have hj : j < s1.length := by
    rcases Nat.lt_or_ge j s1.length with z | z
    · exact z
    · rw [List.getElem?_eq_none z] at hn; cases hn
  have same : s1.set j .no = s1 := by
    refine List.ext_getElem? fun i => ?_
    rw [List.getElem?_set]
    split
    · rename_i q
      subst q
      simp [hj]
      rw [List.getElem?_eq_getElem hj] at hn
      exact (Option.some.inj hn).symm
    · rfl
  refine f_lc (I := fun r m s' => ∃ pre, pre ++ r = ds ∧ m = (pre.filter T).map F ∧ ∀ v, s'.set j v = s1.set j v) ⟨ds, s1, e, n, l, [], rfl, rfl, fun _ => rfl⟩ (fun d r m s' hI => ?_) (fun m s' hI => ?_)
  · obtain ⟨pre, hp, rfl, hs⟩ := hI
    have mem : d ∈ ds := by rw [← hp]; simp
    obtain ⟨t1, t2⟩ := turn d mem
    rw [hs]
    have at_ : (s1.set j (.dat d))[j]? = some (.dat d) := by simp [hj]
    have back : ∀ v, (s1.set j (.dat d)).set j v = s1.set j v := fun v => by rw [List.set_set]
    refine ge_mono t1 fun b s2 q => ?_
    obtain ⟨rfl, rfl⟩ := q
    refine ⟨by rw [at_]; rfl, ?_⟩
    cases hT : T d with
    | true =>
      refine .inl ⟨rfl, ge_mono (t2 hT) fun x s3 q => ?_⟩
      obtain ⟨rfl, rfl⟩ := q
      exact ⟨by rw [at_]; rfl, pre ++ [d], by rw [← hp]; simp, by simp [List.filter_append, hT], back⟩
    | false => exact .inr ⟨rfl, pre ++ [d], by rw [← hp]; simp, by simp [List.filter_append, hT], back⟩
  · obtain ⟨pre, hp, rfl, hs⟩ := hI
    rw [List.append_nil] at hp
    subst hp
    rw [hs, same]
    exact k
/-! ### defs -/
theorem m_fnP {N : List Str} {n : Nat} {b : DS} {ds : List PyData} {q : PyData → Prop} (l : ds.length = n) (h : Gs (b (startS N ds)) (fun _ => q .none) fun d _ => q d) : Gd (fnP N n b ds) q := by
  obtain ⟨⟨s1, e, k⟩ | ⟨d, s1, e, k⟩⟩ := h
  · exact ⟨.none, by unfold fnP; rw [if_pos l, e]; rfl, k⟩
  · exact ⟨d, by unfold fnP; rw [if_pos l, e]; rfl, k⟩
theorem m_fnM {N : List Str} {n : Nat} {b : DS} {pd ds : List PyData} {q : PyData × List PyData → Prop} (l : ds.length + 1 = n)
    (h : Gs (b (startM N pd ds)) (fun s => ∃ pd', potOf s[0]? = some pd' ∧ q (.none, pd')) fun d s => ∃ pd', potOf s[0]? = some pd' ∧ q (d, pd')) : Gd (fnM N n b pd ds) q := by
  obtain ⟨⟨s1, e, pd', e2, k⟩ | ⟨d, s1, e, pd', e2, k⟩⟩ := h
  · exact ⟨_, by unfold fnM; rw [if_pos l, e]; simp only [outM, e2, Option.map_some], k⟩
  · exact ⟨_, by unfold fnM; rw [if_pos l, e]; simp only [outM, e2, Option.map_some], k⟩
theorem m_fnF {N : List Str} {n : Nat} {b : DF} {ds : List PyData} {q : List PyData → Prop} (l : ds.length = n) (h : Ge (b (startS N ds)) fun d _ => q d) : Gd (fnF N n b ds) q := by
  obtain ⟨d, s1, e, k⟩ := h
  exact ⟨d, by unfold fnF; rw [if_pos l, e]; rfl, k⟩
theorem r_seq {q : List PyData → Sl → Prop} (h : Gs (f s) (fun s1 => Ge (ff s1) q) fun _ _ => False) : Ge (rSeq f ff s) q := by
  obtain ⟨⟨s1, e, d, s2, e2, k⟩ | ⟨d, s1, e, k⟩⟩ := h
  · exact ⟨d, s2, by unfold rSeq; rw [e]; exact e2, k⟩
  · exact k.elim
theorem few_and {n : Nat} {p : Prop} (h : n ≤ 1000) (k : p) : n ≤ sizeLine ∧ p := ⟨Nat.le_trans h (by decide), k⟩
/-! ### numbers -/
theorem lg {x : Int} {k : Nat} (hk : 0 < k) (h0 : -(2 ^ k) < x) (h : x < 2 ^ k) : x.natAbs.log2 < k := by
  by_cases z : x.natAbs = 0
  · rw [z]; exact hk
  · refine (Nat.log2_lt z).mpr ?_
    have e : ((2 ^ k : Nat) : Int) = (2 : Int) ^ k := by simp
    omega
theorem two_pos (k : Nat) : (0 : Int) < 2 ^ k := Int.pow_pos (by decide)
theorem n_pow (k : Nat) {a : Int} {b : Nat} (ha : 0 ≤ a) (hl : a < 2 ^ k) (hk : 0 < k) (hb : k * b ≤ 2 ^ 20) (h : 0 ≤ a ^ b → D (.int (a ^ b))) : Gd (gPow (.int a) (.int b)) D := by
  have p := two_pos k
  have l : a.natAbs.log2 < k := lg hk (by omega) hl
  have c : (0 : Int) ≤ (b : Int) ∧ ((a.natAbs.log2 + 1 : Nat) : Int) * b ≤ 2 ^ 27 := by
    refine ⟨by omega, ?_⟩
    have e : (a.natAbs.log2 + 1) * b ≤ k * b := Nat.mul_le_mul_right _ l
    have e2 : (((a.natAbs.log2 + 1) * b : Nat) : Int) ≤ 2 ^ 20 := by
      have : ((2 ^ 20 : Nat) : Int) = 2 ^ 20 := by decide
      omega
    rw [Int.natCast_mul] at e2
    exact Int.le_trans e2 (by decide)
  refine gd (a := .int (a ^ b)) ?_ (h (Int.pow_nonneg ha))
  unfold gPow gInt
  simp only [c, and_self, if_true, Option.map_some, Int.toNat_natCast]
theorem n_add {a b : Int} (h : D (.int (a + b))) : Gd (gAdd (.int a) (.int b)) D := ⟨_, rfl, h⟩
theorem n_sub {a b : Int} (h : D (.int (a - b))) : Gd (gSub (.int a) (.int b)) D := ⟨_, rfl, h⟩
theorem n_mod {a b : Int} (l : 0 < b) (h : 0 ≤ a % b → a % b < b → D (.int (a % b))) : Gd (gMod (.int a) (.int b)) D := ⟨_, by unfold gMod gInt; simp only [l, if_true, Option.map_some], h (Int.emod_nonneg _ (by omega)) (Int.emod_lt_of_pos _ l)⟩
theorem n_div {a b : Int} (l : 0 < b) (u : b < 2 ^ 100) (h : D (.int (a / b))) : Gd (gDiv (.int a) (.int b)) D := by
  have c : 0 < b ∧ b.natAbs.log2 < 9000 := ⟨l, Nat.lt_of_lt_of_le (lg (by decide) (by have := two_pos 100; omega) u) (by decide)⟩
  exact ⟨_, by unfold gDiv gInt; simp only [c, and_self, if_true, Option.map_some], h⟩
theorem n_mul (k : Nat) {a b : Int} (ha : -(2 ^ k) < a) (ha' : a < 2 ^ k) (hb : -(2 ^ k) < b) (hb' : b < 2 ^ k) (hk : 0 < k) (few : k ≤ 400000) (h : D (.int (a * b))) : Gd (gMul (.int a) (.int b)) D := by
  have l1 := lg hk ha ha'
  have l2 := lg hk hb hb'
  have c : a.natAbs.log2 + b.natAbs.log2 < 1000000 := by omega
  exact ⟨_, by unfold gMul gInt; simp only [c, if_true, Option.map_some], h⟩
theorem n_gt {a b : Int} (h : D (.bool (decide (b < a)))) : Gd (gGt (.int a) (.int b)) D := ⟨_, rfl, h⟩
theorem n_ge {a b : Int} (h : D (.bool (decide (b ≤ a)))) : Gd (gGe (.int a) (.int b)) D := ⟨_, rfl, h⟩
theorem n_lt {a b : Int} (h : D (.bool (decide (a < b)))) : Gd (gLt (.int a) (.int b)) D := ⟨_, rfl, h⟩
theorem n_le {a b : Int} (h : D (.bool (decide (a ≤ b)))) : Gd (gLe (.int a) (.int b)) D := ⟨_, rfl, h⟩
end
end Dl

/-! ### while, a name forgotten, gcd, // by any divisor, the head by any check -/
namespace Dl
open PySem PySem.Spec PyProof.Rows L2
/-- while, n turns at most -/
def sWhile (t : DT) (b : DS) : Nat → DS
  | 0 => fun _ => none
  | n + 1 => fun s => (t s).bind fun p => if p.1 = true then (b p.2).bind fun fl => match fl with
      | .nx s' => sWhile t b n s'
      | .ct s' => sWhile t b n s'
      | .bk s' => some (.nx s')
      | .rt d s' => some (.rt d s')
    else some (.nx p.2)
/-- more turns than any loop here has -/
def bigF : Nat := 2 ^ 1000
/-- a name of which nothing is known from here on -/
def sFgt (j : Nat) : DS := fun s => if notOwn s[j]? = true then some (.nx (s.set j .no)) else none
section
variable {X : Cx} {Z : Par} {a b e : Expr} {es : List Expr} {pos : Pos} {fa fb fc : DE} {ff : DF} {ga : DA} {st : Stmt} {sts : List Stmt} {f g : DS} {t : DT}
theorem lift_while {K : PySem.W.Frag} {n : Nat} {D : Ends} {σ : L2.St} {H : Hp} (h : lfS K Z (sWhile t f n) D σ H) : tWhile (lfT K Z t) (lfS K Z f) D σ H := by
  obtain ⟨M, s, fl, rl, hf, k⟩ := h
  refine ⟨fun m σ' H' => ∃ M' s', Kq Z M H M' H' ∧ Rel K Z M' σ' H' s' ∧ sWhile t f m s' = some fl, ⟨n, M, s, Kq.refl _ _ _, rl, hf⟩, ?_⟩
  rintro m σ' H' ⟨M', s', k2, r2, h3⟩
  cases m with
  | zero => cases h3
  | succ m =>
    unfold sWhile at h3
    simp only [Option.bind_eq_some_iff] at h3
    obtain ⟨⟨b1, s1⟩, e1, h4⟩ := h3
    dsimp only at h4
    refine ⟨M', s', b1, s1, r2, e1, fun H1 k1 r1 => ?_⟩
    cases b1 with
    | true =>
      rw [if_pos rfl]
      rw [if_pos rfl] at h4
      simp only [Option.bind_eq_some_iff] at h4
      obtain ⟨fl1, e2, h5⟩ := h4
      refine ⟨fun σ3 H3 => ∃ M3 s3, Kq Z M H M3 H3 ∧ Rel K Z M3 σ3 H3 s3 ∧ sWhile t f m s3 = some fl, fun σ3 H3 q => ⟨m, Nat.lt_succ_self _, q⟩, ?_⟩
      refine ⟨M', s1, fl1, r1, e2, ?_⟩
      have kk : Kq Z M H M' H1 := k2.trans k1
      cases fl1 with
      | nx s4 => exact fun M4 σ4 H4 k4 r4 => ⟨M4, s4, kk.trans k4, r4, h5⟩
      | ct s4 => exact fun M4 σ4 H4 k4 r4 => ⟨M4, s4, kk.trans k4, r4, h5⟩
      | bk s4 => cases h5; exact fun M4 σ4 H4 k4 r4 => k M4 σ4 H4 (kk.trans k4) r4
      | rt d4 s4 => cases h5; exact fun M4 σ4 H4 v4 k4 r4 t4 => k M4 σ4 H4 v4 (kk.trans k4) r4 t4
    | false =>
      rw [if_neg Bool.false_ne_true]
      rw [if_neg Bool.false_ne_true] at h4
      cases h4
      exact k M' σ' H1 (k2.trans k1) r1
theorem swhile (n : Nat) {c : Expr} {body : List Stmt} (hp : PassesOwn (model X.prog X.w) X.A X.env X.xe) (hc : PT X c (lfT X.K Z t)) (hb : PSs X body (lfS X.K Z f)) : PS X (.While c body [] pos) (lfS X.K Z (sWhile t f n)) :=
  PSimp (ps_while hp hc hb) fun _ _ _ h => lift_while h
theorem sfgt {j : Nat} (h : PSs X sts (lfS X.K Z g)) : PSs X sts (lfS X.K Z (sSeq (sFgt j) g)) := PSsimp h fun D σ H h => by
  obtain ⟨M, s, fl, rl, h1, k⟩ := h
  unfold sSeq sFgt at h1
  simp only [Option.bind_eq_some_iff] at h1
  obtain ⟨fl1, h1, h2⟩ := h1
  split at h1
  · rename_i hn
    cases h1
    have q := rl.sl.forget (x := σ[j]?.join) j (notOwn_ne hn)
    have e : σ.set j (σ[j]?.join) = σ := by
      apply List.ext_getElem?
      intro i'
      by_cases e : i' = j
      · subst e
        by_cases hl : i' < σ.length
        · rw [List.getElem?_set_self hl, List.getElem?_eq_getElem hl]; rfl
        · rw [List.getElem?_eq_none (by simpa using hl), List.getElem?_eq_none (by simpa using hl)]
      · rw [List.getElem?_set_ne (Ne.symm e)]
    rw [e] at q
    exact ⟨M, _, fl, rl.withSl q, h2, k⟩
  · cases h1

/-! gcd -/
def gGcd : List PyData → Option PyData
  | [.int a, .int b] => some (.int ((Nat.gcd a.natAbs b.natAbs : Nat) : Int))
  | _ => none
theorem ok_gcd {K : PySem.W.Frag} : CallOk K rGcd gGcd := fun mu H xs ds d Q hm t e k => by
  unfold gGcd at e
  split at e
  · obtain ⟨x, y, rfl, t1, u⟩ := two_of t
    cases e
    exact ⟨_, _, by rw [t1.inti, u.inti], k _ H (fun _ _ z => z) (.int _)⟩
  · cases e
/-- a call of a built-in that a name of the module holds -/
theorem dcbf {x : Str} {p : Pos} {id : String} {r : List V → Hp → VK → Prop} {g : List PyData → Option PyData} (hc : CallR X (.builtin id) r) (ok : CallOk X.K r g) (hg : Gl X x) (hm : X.mg x = some (.builtin id)) (ha : PA X (e :: es) (lfA X.K Z ga))
    (hdb : (x == ("__debug__" : Str)) = false := by decide) (he : starEach (e :: es) X.env = (false, eval e X.env) :: starEach es X.env := by rfl) (hpl : (backTo pos (starEach es X.env)).any (·.1) = false := by rfl) : PE X (.Call (.Name x p) (e :: es) [] pos) (lft X.K Z (dB g ga)) :=
  PEimp (pe_callBfun hc hg hm ha hdb he hpl) fun _ _ _ h => lift_cb ok h

/-! // by any divisor but 0 -/
def CDivA (_ j : Int) : Prop := j ≠ 0 ∧ j.natAbs.log2 < 9000
theorem op_fdivA : OpR X (binaryOp .FloorDiv) (rI CDivA fun i j => .int (i.fdiv j)) := opI fun _ _ _ _ _ _ _ hc q => floordiv_int hc.1 q (.inl (PyProof.noPylong_of_log2 hc.2))
def gDivA : PyData → PyData → Option PyData := gInt fun a b => if b ≠ 0 ∧ b.natAbs.log2 < 9000 then some (a.fdiv b) else none
theorem ok_divA {K : PySem.W.Frag} : OpOk K (rI CDivA fun i j => .int (i.fdiv j)) gDivA := okI fun a b c h => by
  split at h
  · cases h; exact ⟨by assumption, rfl⟩
  · cases h
end
section
variable {N : Sl → Prop} {R : PyData → Sl → Prop} {s : Sl} {t : DT} {f g : DS} {D : PyData → Prop} {j : Nat}
theorem s_fgt (h : notOwn s[j]? = true) (k : N (s.set j .no)) : Gs (sFgt j s) N R := ⟨.inl ⟨_, by unfold sFgt; rw [if_pos h], k⟩⟩
/-- while by an invariant with its measure -/
theorem s_while {n : Nat} (I : Nat → Sl → Prop) (h : ∃ m, m < n ∧ I m s) (turn : ∀ m s, I m s → Ge (t s) fun b s1 => (b = true ∧ Gs (f s1) (fun s2 => ∃ m', m' < m ∧ I m' s2) R) ∨ (b = false ∧ N s1)) : Gs (sWhile t f n s) N R := by
  obtain ⟨m, hm, h⟩ := h
  induction n generalizing m s with
  | zero => omega
  | succ n ih =>
    obtain ⟨b, s1, e, ⟨rfl, q⟩ | ⟨rfl, q⟩⟩ := turn m s h
    · obtain ⟨⟨s2, e2, m', l, q⟩ | ⟨d, s2, e2, q⟩⟩ := q
      · have w : sWhile t f (n + 1) s = sWhile t f n s2 := by
          simp only [sWhile, e, Option.bind_some, if_true, e2]
        rw [w]
        exact ih m' (by omega) q
      · exact ⟨.inr ⟨d, s2, by simp only [sWhile, e, Option.bind_some, if_true, e2], q⟩⟩
    · exact ⟨.inl ⟨s1, by simp [sWhile, e], q⟩⟩
theorem n_divA {a b : Int} (l : 0 < b) (u : b < 2 ^ 200) (h : D (.int (a / b))) : Gd (gDivA (.int a) (.int b)) D := by
  have c : b ≠ 0 ∧ b.natAbs.log2 < 9000 := ⟨by omega, Nat.lt_of_lt_of_le (lg (by decide) (by have := two_pos 200; omega) u) (by decide)⟩
  refine ⟨_, ?_, h⟩
  unfold gDivA gInt
  simp only [c, and_self, ne_eq, not_false_eq_true, if_true, Option.map_some]
  rw [Int.fdiv_eq_ediv_of_nonneg a (by omega)]
theorem n_divN {a b : Int} (l : b ≠ 0) (u : b.natAbs < 2 ^ 200) (h : D (.int (a.fdiv b))) : Gd (gDivA (.int a) (.int b)) D := by
  have c : b ≠ 0 ∧ b.natAbs.log2 < 9000 := ⟨l, by
    by_cases z : b.natAbs = 0
    · rw [z]; decide
    · exact Nat.lt_of_lt_of_le ((Nat.log2_lt z).mpr u) (by decide)⟩
  refine ⟨_, ?_, h⟩
  unfold gDivA gInt
  simp only [c, and_self, ne_eq, not_false_eq_true, if_true, Option.map_some]
end

/-! ### the head by any check of it -/
def bnB (K : PySem.W.Frag) (c : Str × String) : Bool := He.eqO (PySem.W.nsIn K mainGlobals c.1) (some (some (.builtin c.2)))
def obsC (n : Nat) (fa : List He.Fa) (fn : List He.DefD) (ck : PySem.W.Frag → Bool) (g : Addr → Option Obj) : Bool × He.AlD :=
  (ck (He.frG g (He.asD g n)), He.obsDG n fa fn g)
def hookC (n : Nat) (fa : List He.Fa) (fn : List He.DefD) (ck : PySem.W.Frag → Bool) : PySem.W.Hook where
  α := Bool × He.AlD
  obs := fun s => obsC n fa fn ck s.heap.get?
  val := fun _ => (true, He.valD fn)
  says := fun _ h => ∃ K : PySem.W.Frag, K.In h ∧ He.SaysD fa fn K ∧ ck K = true
  of := fun _ _ e => ⟨_, He.frG_in, congrArg Prod.snd e, congrArg Prod.fst e⟩
  keeps := fun _ _ _ ⟨K, X, c⟩ k => ⟨K, PySem.W.Frag.In.keeps X k, c⟩
theorem obsC_eq {n : Nat} {fa : List He.Fa} {fn : List He.DefD} {ck : PySem.W.Frag → Bool} {g : Addr → Option Obj} {s : Shared} (h : ∀ a, g a = s.heap.get? a) : obsC n fa fn ck g = (hookC n fa fn ck).obs s := by
  obtain rfl : g = s.heap.get? := funext h
  rfl
section
variable {K : PySem.W.Frag} {h : Heap} {mg : Str → Option Value} {fa : List He.Fa} {fn : List He.DefD} {bs : List (Str × String)}
theorem bn_of (X : K.In h) (G : h.Ns mainGlobals mg) (c : bs.all (bnB K) = true) (i : Nat) {x : Str} {d : String} (at_ : bs[i]? = some (x, d) := by rfl) : mg x = some (.builtin d) :=
  PySem.W.mg_of X G (He.eqO_ok (List.all_eq_true.mp c _ (List.mem_of_getElem? at_)))
end
/-- the law walked: what is asked of the program is that its meaning at each script is True -/
theorem walk_dataC {l : PySem.W.OpenLaw} {n k : Nat} {q : Program} {loose : List Str} {XP : (Str → Option Value) → Heap → Prop} {d : DefRec} {fa : List He.Fa} {fn : List He.DefD} {ck : PySem.W.Frag → Bool} {m : Nat} {x p : Str} {st : Stmt} {N : List Str} {b : DS}
    (most : l.most = some n) (few : n ≤ sizeLine) (hdf : d.params.defaults = []) (name : d.name = x) (alone : importsNone q = true) (room : Room (k + 1) callerA) (S : FnScope N [p] (defScope st))
    (F : ∀ (w : World) (mg : Str → Option Value) (h : Heap) (K : PySem.W.Frag), K.In h → h.Ns mainGlobals mg → He.SaysD fa fn K → ck K = true → ∃ (f : Addr) (fd : FuncData), mg x = some (.ref f) ∧ Fun K x x st f fd ∧ (∀ (s : Shared) (u : Value), BindsTo s fd ⟨[u], []⟩ [(p, u)]) ∧
      ∀ (base : Heap) (cdv : Value) (s : Shared) (H : Hp) (Z : Par), Mod K mg base → Room k (callerA.deeper (envOfC x (defScope st) s.heap.objs.size f cdv)) → CG (cxOf CX0 l.prog w K mg base N x (defScope st) f cdv callerA [] s H E0).nox →
        PSs (cxOf CX0 l.prog w K mg base N x (defScope st) f cdv callerA [] s H E0).nox (defBody st) (lfS K Z b))
    (T : ∀ ns : List Int, ns.length ≤ n → fnP N 1 b [.dict [(.none, .list (ns.map .int))]] = some (.bool true)) :
    PySem.W.WalkO q loose XP (hookC m fa fn ck).says l.row.toRowW d [] (fun f vs => PySem.call f vs) := by
  refine Att.attach_call most hdf fun w s₀ s₁ mg mb f o pm cd doc a vs ns G Y _ _ _ hmg hobj hints hlen hg => ?_
  obtain ⟨K, X, c1, c2⟩ := Y
  obtain ⟨f', fd, e, Fn, bt, body⟩ := F w mg _ K X G.T.g c1 c2
  rw [name] at hmg
  cases e.symm.trans hmg
  obtain ⟨mm, sees, _⟩ := (G.T.seer alone).mods
  exact law_here X G.T.g G.T.b G.T.builtins G.T.nolimit ⟨mm, sees⟩ hg hobj hints (Nat.le_trans hlen few) room Fn S bt body (T ns hlen)
end Dl

/-! ### exceptions: what a body tells, or which class of exception leaves it -/
namespace Dl
open PySem PySem.Spec PyProof.Rows L2
inductive Rx (α : Type) where
  | ok (a : α) | ex (c : Str)
/-- .. with the names' state -/
inductive Ry (α : Type) where
  | ok (a : α) | ex (c : Str) (s : Sl)
abbrev DX := Sl → Option (Ry (PyData × Sl))
abbrev DTX := Sl → Option (Ry (Bool × Sl))
abbrev DAX := Sl → Option (Ry (List PyData × Sl))
inductive Fx where
  | fl (f : Fl) | ex (c : Str) (s : Sl)
abbrev DSx := Sl → Option Fx
/-- an exception of the class of that name is let out, the names being so -/
def ExAt (K : PySem.W.Frag) (mg : Str → Option Value) (Z : Par) (M : List Addr) (H : Hp) (W : WX) (c : Str) (s : Sl) : Prop :=
  ∀ (C : Addr) (M' : List Addr) (σ' : L2.St) (H' : Hp), mg c = some (.ref C) → Kq Z M H M' H' → Rel K Z M' σ' H' s → W (.ref C) none σ' H'
theorem ExAt.mono {K : PySem.W.Frag} {mg : Str → Option Value} {Z : Par} {M M1 : List Addr} {H H1 : Hp} {W : WX} {c : Str} {s : Sl} (k : Kq Z M H M1 H1) (h : ExAt K mg Z M H W c s) : ExAt K mg Z M1 H1 W c s := fun C M' σ' H' hm k1 r => h C M' σ' H' hm (k.trans k1) r
/-- .. out of an expression: the names are as they were -/
def ExE (K : PySem.W.Frag) (mg : Str → Option Value) (Z : Par) (M : List Addr) (σ : L2.St) (H : Hp) (W : WX) (c : Str) (s : Sl) : Prop :=
  ∀ (C : Addr) (H' : Hp), mg c = some (.ref C) → Kq Z M H M H' → Rel K Z M σ H' s → W (.ref C) none σ H'
theorem ExE.mono {K : PySem.W.Frag} {mg : Str → Option Value} {Z : Par} {M : List Addr} {σ : L2.St} {H H1 : Hp} {W : WX} {c : Str} {s : Sl} (k : Kq Z M H M H1) (h : ExE K mg Z M σ H W c s) : ExE K mg Z M σ H1 W c s := fun C H' hm k1 r => h C H' hm (k.trans k1) r
theorem ExAt.toE {K : PySem.W.Frag} {mg : Str → Option Value} {Z : Par} {M : List Addr} {σ : L2.St} {H : Hp} {W : WX} {c : Str} {s : Sl} (h : ExAt K mg Z M H W c s) : ExE K mg Z M σ H W c s := fun C H' hm k r => h C M σ H' hm k r
def lftx (K : PySem.W.Frag) (mg : Str → Option Value) (Z : Par) (W : WX) (f : DX) : TE := fun σ H Q => ∃ M s r, Rel K Z M σ H s ∧ f s = some r ∧ (match r with
  | .ok p => ∀ v H', Kq Z M H M H' → Rel K Z M σ H' p.2 → Dt K (Mu Z M) H' v p.1 → Q v H'
  | .ex c s' => ExE K mg Z M σ H W c s')
def lfTx (K : PySem.W.Frag) (mg : Str → Option Value) (Z : Par) (W : WX) (f : DTX) : TT := fun σ H Q => ∃ M s r, Rel K Z M σ H s ∧ f s = some r ∧ (match r with
  | .ok p => ∀ H', Kq Z M H M H' → Rel K Z M σ H' p.2 → Q p.1 H'
  | .ex c s' => ExE K mg Z M σ H W c s')
def lfAx (K : PySem.W.Frag) (mg : Str → Option Value) (Z : Par) (W : WX) (f : DAX) : TA := fun σ H Q => ∃ M s r, Rel K Z M σ H s ∧ f s = some r ∧ (match r with
  | .ok p => ∀ vs H', Kq Z M H M H' → Rel K Z M σ H' p.2 → DtAll K (Mu Z M) H' vs p.1 → Q vs H'
  | .ex c s' => ExE K mg Z M σ H W c s')
def FxOk (K : PySem.W.Frag) (mg : Str → Option Value) (Z : Par) (W : WX) (M : List Addr) (H : Hp) (D : Ends) : Fx → Prop
  | .fl fl => FlOk K Z M H D fl
  | .ex c s => ExAt K mg Z M H W c s
def lfSx (K : PySem.W.Frag) (mg : Str → Option Value) (Z : Par) (W : WX) (f : DSx) : TS := fun D σ H => ∃ M s r, Rel K Z M σ H s ∧ f s = some r ∧ FxOk K mg Z W M H D r
theorem fxOk_mono {K : PySem.W.Frag} {mg : Str → Option Value} {Z : Par} {W : WX} {m0 m1 : List Addr} {H0 H1 : Hp} {D : Ends} (k : Kq Z m0 H0 m1 H1) : ∀ {r : Fx}, FxOk K mg Z W m0 H0 D r → FxOk K mg Z W m1 H1 D r
  | .fl _, h => FlOk.mono k h
  | .ex _ _, h => ExAt.mono k h
def spX (K : PySem.W.Frag) (mg : Str → Option Value) (m : List PyData → Option (Rx PyData)) : Sp := fun vs H Q E => ∃ mu ds r, (∀ a, mu a → ∃ o, H a = some o) ∧ DtAll K mu H vs ds ∧ m ds = some r ∧ (match r with
  | .ok d => ∀ v H', (∀ a o, H a = some o → H' a = some o) → Dt K mu H' v d → Q v H'
  | .ex c => ∀ (C : Addr) (H' : Hp), mg c = some (.ref C) → (∀ a o, H a = some o → H' a = some o) → E (.ref C) none H')

/-! #### expressions -/
def xUp (f : DE) : DX := fun s => (f s).map .ok
def xCall (m : List PyData → Option (Rx PyData)) (g : DA) : DX := fun s => (g s).bind fun p => (m p.1).map fun r => match r with
  | .ok d => .ok (d, p.2)
  | .ex c => .ex c p.2
def xACons (f : DX) (g : DAX) : DAX := fun s => (f s).bind fun r => match r with
  | .ex c s' => some (.ex c s')
  | .ok p => (g p.2).map fun q => match q with
    | .ex c s' => .ex c s'
    | .ok q => .ok (p.1 :: q.1, q.2)
def xAUp (f : DA) : DAX := fun s => (f s).map .ok
def xTup (g : DAX) : DX := fun s => (g s).bind fun r => match r with
  | .ex c s' => some (.ex c s')
  | .ok p => if p.1.length ≤ sizeLine then some (.ok (.tuple p.1, p.2)) else none
def xTst (f : DX) : DTX := fun s => (f s).bind fun r => match r with
  | .ex c s' => some (.ex c s')
  | .ok (.bool b, s') => some (.ok (b, s'))
  | .ok _ => none
def xNotT (f : DTX) : DTX := fun s => (f s).map fun r => match r with
  | .ex c s' => .ex c s'
  | .ok p => .ok (!p.1, p.2)
/-- the call of a def that may raise, where it doesn't -/
def okOf (m : List PyData → Option (Rx PyData)) : List PyData → Option PyData := fun ds => match m ds with
  | some (.ok d) => some d
  | _ => none
section
variable {X : Cx} {Z : Par} {W : WX} {a b e : Expr} {es : List Expr} {pos : Pos} {fa fb : DE} {xa xb : DX} {ga : DA} {gx : DAX} {tx : DTX}
theorem xup (h : PE X e (lft X.K Z fa)) : PE X e (lftx X.K X.mg Z W (xUp fa)) := PEimp h fun σ H Q h => by
  obtain ⟨M, s, r, rl, hf, k⟩ := h
  unfold xUp at hf
  simp only [Option.map_eq_some_iff] at hf
  obtain ⟨⟨d, s1⟩, h1, rfl⟩ := hf
  exact ⟨M, s, d, s1, rl, h1, k⟩
theorem xaup (h : PA X es (lfA X.K Z ga)) : PA X es (lfAx X.K X.mg Z W (xAUp ga)) := PAimp h fun σ H Q h => by
  obtain ⟨M, s, r, rl, hf, k⟩ := h
  unfold xAUp at hf
  simp only [Option.map_eq_some_iff] at hf
  obtain ⟨⟨d, s1⟩, h1, rfl⟩ := hf
  exact ⟨M, s, d, s1, rl, h1, k⟩
theorem lift_xcall {K : PySem.W.Frag} {mg : Str → Option Value} {m : List PyData → Option (Rx PyData)} {σ : L2.St} {H : Hp} {Q : VK} (h : lftx K mg Z W (xCall m ga) σ H Q) : tCallS (spX K mg m) (WE W) (lfA K Z ga) σ H Q := by
  obtain ⟨M, s, r, rl, hf, k⟩ := h
  unfold xCall at hf
  simp only [Option.bind_eq_some_iff, Option.map_eq_some_iff] at hf
  obtain ⟨⟨ds, s1⟩, h1, r1, h2, h3⟩ := hf
  refine ⟨M, s, ds, _, rl, h1, fun vs H1 k1 rl1 t1 => ?_⟩
  show spX K mg m vs H1 Q (WE W σ)
  refine ⟨Mu Z M, ds, _, rl1.muT, t1, h2, ?_⟩
  cases r1 with
  | ok d =>
    cases h3
    exact fun v H2 g2 t2 => k v H2 (k1.trans (kq_grow g2)) (rl1.grow g2) t2
  | ex c =>
    cases h3
    exact fun C H' hm g => k C H' hm (k1.trans (kq_grow g)) (rl1.grow g)
def CalX (P : Program) (w : World) (K : PySem.W.Frag) (mg : Str → Option Value) (base : Heap) (k : Nat) (x : Str) (ps : List Str) (sp : Sp) : Prop := ∃ (f : Addr) (fd : FuncData), FnOk P w K mg base (L2.CX P w) k f fd ps sp ∧ mg x = some (.ref f) ∧ PySem.W.keepIn K (.ref f) = true ∧ Binds K fd ps []
theorem CalX.mono {P : Program} {w : World} {K : PySem.W.Frag} {mg : Str → Option Value} {base : Heap} {x : Str} {ps : List Str} {j k : Nat} {sp : Sp} (c : CalX P w K mg base j x ps sp) (h : j ≤ k) : CalX P w K mg base k x ps sp := by
  obtain ⟨f, fd, F, r⟩ := c
  exact ⟨f, fd, F.mono h, r⟩
theorem xcl {m : List PyData → Option (Rx PyData)} {j k : Nat} {x : Str} {ps : List Str} {p : Pos} (tk : Takes X W) (c : CalX X.prog X.w X.K X.mg X.base j x ps (spX X.K X.mg m)) (hr : Room k X.A) (hj : j ≤ k) (hg : Gl X x) (ha : PA X (e :: es) (lfA X.K Z ga))
    (hdb : (x == ("__debug__" : Str)) = false := by decide) (he : starEach (e :: es) X.env = (false, eval e X.env) :: starEach es X.env := by rfl) (hpl : (backTo pos (starEach es X.env)).any (·.1) = false := by rfl) :
    PE X (.Call (.Name x p) (e :: es) [] pos) (lftx X.K X.mg Z W (xCall m ga)) := by
  obtain ⟨f, fd, F, hm, hk, hb⟩ := c
  exact PEimp (pe_callS F (hr.mono hj) hg hm hk hb (fun σ => passAt tk σ) ha hdb he hpl) fun _ _ _ h => lift_xcall h
/-- called where it doesn't raise -/
theorem dclX {m : List PyData → Option (Rx PyData)} {j k : Nat} {x : Str} {ps : List Str} {p : Pos} (c : CalX X.prog X.w X.K X.mg X.base j x ps (spX X.K X.mg m)) (hr : Room k X.A) (hj : j ≤ k) (hg : Gl X x) (ha : PA X (e :: es) (lfA X.K Z ga))
    (hdb : (x == ("__debug__" : Str)) = false := by decide) (he : starEach (e :: es) X.env = (false, eval e X.env) :: starEach es X.env := by rfl) (hpl : (backTo pos (starEach es X.env)).any (·.1) = false := by rfl) :
    PE X (.Call (.Name x p) (e :: es) [] pos) (lft X.K Z (dCall (okOf m) ga)) := by
  obtain ⟨f, fd, F, hm, hk, hb⟩ := c
  refine PEimp (pe_call F (hr.mono hj) hg hm hk hb .nil (passL) ha hdb he hpl) fun σ H Q h => ?_
  obtain ⟨M, s, d, s', rl, hf, k⟩ := h
  unfold dCall okOf at hf
  simp only [Option.bind_eq_some_iff, Option.map_eq_some_iff] at hf
  obtain ⟨⟨ds, s1⟩, h1, d1, h2, h3⟩ := hf
  cases h3
  split at h2
  · rename_i d2 hm2
    cases h2
    refine ⟨M, s, ds, _, rl, h1, fun vs H1 k1 rl1 t1 => ?_⟩
    show spX X.K X.mg m (vs ++ []) H1 Q E0
    rw [List.append_nil]
    exact ⟨Mu Z M, ds, _, rl1.muT, t1, hm2, fun v H2 g2 t2 => k v H2 (k1.trans (kq_grow g2)) (rl1.grow g2) t2⟩
  · cases h2
theorem xac (ha : PE X e (lftx X.K X.mg Z W xa)) (hb : PA X es (lfAx X.K X.mg Z W gx)) (hs : starEach (e :: es) X.env = (false, eval e X.env) :: starEach es X.env := by rfl) : PA X (e :: es) (lfAx X.K X.mg Z W (xACons xa gx)) := PAimp (pa_cons ha hb hs) fun σ H Q h => by
  obtain ⟨M, s, r, rl, hf, k⟩ := h
  unfold xACons at hf
  simp only [Option.bind_eq_some_iff] at hf
  obtain ⟨r1, h1, h2⟩ := hf
  refine ⟨M, s, r1, rl, h1, ?_⟩
  cases r1 with
  | ex c s' => cases h2; exact k
  | ok p =>
    simp only [Option.map_eq_some_iff] at h2
    obtain ⟨r2, h2, h3⟩ := h2
    refine fun v H1 k1 rl1 t1 => ⟨M, p.2, r2, rl1, h2, ?_⟩
    cases r2 with
    | ex c s' => cases h3; exact ExE.mono k1 k
    | ok q => cases h3; exact fun vs H2 k2 rl2 t2 => k _ H2 (k1.trans k2) rl2 (.cons (t1.mono k2.kp) t2)
theorem xtup {x1} (h : PA X es (lfAx X.K X.mg Z W gx)) : PE X (.Tuple es x1 pos) (lftx X.K X.mg Z W (xTup gx)) := PEimp (pe_tup h) fun σ H Q h => by
  obtain ⟨M, s, r, rl, hf, k⟩ := h
  unfold xTup at hf
  simp only [Option.bind_eq_some_iff] at hf
  obtain ⟨r1, h1, h2⟩ := hf
  refine ⟨M, s, r1, rl, h1, ?_⟩
  cases r1 with
  | ex c s' => cases h2; exact k
  | ok p =>
    dsimp only at h2
    split at h2
    · rename_i hz
      cases h2
      exact fun vs H1 k1 rl1 t1 => ⟨by rw [t1.len]; exact hz, fun p hp => k _ _ (k1.trans (kq_grow (grow_new hp))) (rl1.grow (grow_new hp)) (dt_newT rl1.muT hp t1)⟩
    · cases h2
theorem xt (h : PE X e (lftx X.K X.mg Z W xa)) (he : ∀ whole, isTrue e X.env whole = (do let v ← whole; standAt e.pos; holding [v] (truthy v)) := by intro _; rfl) : PT X e (lfTx X.K X.mg Z W (xTst xa)) := PTimp (pt_val h he) fun σ H Q h => by
  obtain ⟨M, s, r, rl, hf, k⟩ := h
  unfold xTst at hf
  simp only [Option.bind_eq_some_iff] at hf
  obtain ⟨r1, h1, h2⟩ := hf
  refine ⟨M, s, r1, rl, h1, ?_⟩
  split at h2
  · cases h2; exact k
  · cases h2; exact fun v H1 k1 rl1 t1 => ⟨_, t1.bool, k H1 k1 rl1⟩
  · cases h2
theorem xtnot (h : PT X e (lfTx X.K X.mg Z W tx)) : PT X (.UnaryOp .Not e pos) (lfTx X.K X.mg Z W (xNotT tx)) := PTimp (pt_not h) fun σ H Q h => by
  obtain ⟨M, s, r, rl, hf, k⟩ := h
  unfold xNotT at hf
  simp only [Option.map_eq_some_iff] at hf
  obtain ⟨r1, h1, h2⟩ := hf
  refine ⟨M, s, r1, rl, h1, ?_⟩
  cases r1 with
  | ex c s' => cases h2; exact k
  | ok p => cases h2; exact fun H1 k1 rl1 => k H1 k1 rl1
end

/-! #### statements -/
def xsUp (f : DS) : DSx := fun s => (f s).map .fl
def xsSeq (f g : DSx) : DSx := fun s => (f s).bind fun r => match r with
  | .fl (.nx s') => g s'
  | r => some r
def xsIf (t : DT) (f g : DSx) : DSx := fun s => (t s).bind fun p => if p.1 = true then f p.2 else g p.2
def xsIfX (t : DTX) (f g : DSx) : DSx := fun s => (t s).bind fun r => match r with
  | .ex c s' => some (.ex c s')
  | .ok p => if p.1 = true then f p.2 else g p.2
def xsRet (f : DX) : DSx := fun s => (f s).map fun r => match r with
  | .ex c s' => .ex c s'
  | .ok p => .fl (.rt p.1 p.2)
def xsDrop (f : DX) : DSx := fun s => (f s).map fun r => match r with
  | .ex c s' => .ex c s'
  | .ok p => .fl (.nx p.2)
def xsSet (i : Nat) (f : DX) : DSx := fun s => (f s).map fun r => match r with
  | .ex c s' => .ex c s'
  | .ok p => .fl (.nx (p.2.set i (.dat p.1)))
def xsAsg (f : DX) (gd : PyData → Sl → Option Sl) : DSx := fun s => (f s).bind fun r => match r with
  | .ex c s' => some (.ex c s')
  | .ok p => (gd p.1 p.2).map fun s' => .fl (.nx s')
def xsRaise (c : Str) : DSx := fun s => some (.ex c s)
/-- an own class of exceptions, made with a text -/
structure ExcK (K : PySem.W.Frag) (mg : Str → Option Value) (c : Str) : Prop where
  at_ : ∃ C : Addr, mg c = some (.ref C) ∧ PySem.W.excIn K C [.type "ValueError", .type "Exception", .type "BaseException", .type "object"] "ValueError.__new__" = true ∧ PySem.W.keepIn K (.ref C) = true ∧ PySem.W.subIn K (.ref C) (.type "BaseException") = some true ∧ PySem.W.typeIn K (.ref C) = some (.type "type")
section
variable {X : Cx} {Z : Par} {W : WX} {a b e : Expr} {es : List Expr} {pos : Pos} {fa fb : DE} {xa xb : DX} {ga : DA} {gx : DAX} {tx : DTX} {t : DT} {st : Stmt} {sts : List Stmt} {f g : DSx} {fs : DS}
theorem xsup (h : PS X st (lfS X.K Z fs)) : PS X st (lfSx X.K X.mg Z W (xsUp fs)) := PSimp h fun D σ H h => by
  obtain ⟨M, s, r, rl, hf, k⟩ := h
  unfold xsUp at hf
  simp only [Option.map_eq_some_iff] at hf
  obtain ⟨fl, h1, rfl⟩ := hf
  exact ⟨M, s, fl, rl, h1, k⟩
theorem xssup (h : PSs X sts (lfS X.K Z fs)) : PSs X sts (lfSx X.K X.mg Z W (xsUp fs)) := PSsimp h fun D σ H h => by
  obtain ⟨M, s, r, rl, hf, k⟩ := h
  unfold xsUp at hf
  simp only [Option.map_eq_some_iff] at hf
  obtain ⟨fl, h1, rfl⟩ := hf
  exact ⟨M, s, fl, rl, h1, k⟩
theorem xscons (h1 : PS X st (lfSx X.K X.mg Z W f)) (h2 : PSs X sts (lfSx X.K X.mg Z W g)) : PSs X (st :: sts) (lfSx X.K X.mg Z W (xsSeq f g)) := PSsimp (pss_cons h1 h2) fun D σ H h => by
  obtain ⟨M, s, r, rl, hf, k⟩ := h
  unfold xsSeq at hf
  simp only [Option.bind_eq_some_iff] at hf
  obtain ⟨r1, h1, h2⟩ := hf
  refine ⟨M, s, r1, rl, h1, ?_⟩
  cases r1 with
  | ex c s' => cases h2; exact k
  | fl fl1 =>
    cases fl1 with
    | nx s1 =>
      refine fun M1 σ1 H1 k1 rl1 => ⟨M1, s1, r, rl1, h2, ?_⟩
      exact fxOk_mono k1 k
    | rt d s1 => cases h2; exact k
    | bk s1 => cases h2; exact k
    | ct s1 => cases h2; exact k
theorem xsone (h1 : PS X st (lfSx X.K X.mg Z W f)) : PSs X [st] (lfSx X.K X.mg Z W f) := pss_one h1
theorem xsnil : PSs X [] (lfSx X.K X.mg Z W (xsUp sNil)) := xssup snil
theorem xsfrz {i : Nat} (h : PSs X sts (lfSx X.K X.mg Z W g)) : PSs X sts (lfSx X.K X.mg Z W (xsSeq (xsUp (sFrz i)) g)) := PSsimp h fun D σ H h => by
  obtain ⟨M, s, r, rl, h1, k⟩ := h
  unfold xsSeq xsUp sFrz at h1
  simp only [Option.bind_eq_some_iff, Option.map_eq_some_iff] at h1
  obtain ⟨r1, ⟨fl1, h1, rfl⟩, h2⟩ := h1
  split at h1
  · rename_i ds hs
    cases h1
    obtain ⟨a, xs, M', g1, g2, g3, g4, g5, g6, g7⟩ := rl.sl.frz i hs
    have sub : ∀ b, Mu Z M' b → Mu Z M b := fun b hb => by
      rcases hb with hb | hb | hb
      · exact .inl hb
      · exact .inr (.inl hb)
      · exact .inr (.inr (g6 b hb))
    have na : ¬ Mu Z M' a := fun hb => by
      rcases hb with hb | hb | hb
      · exact (rl.fr a g4).2.2.1 hb
      · exact (rl.fr a g4).2.1 hb
      · exact g5 hb
    have kk : Kq Z M H M' H := fun c u e _ nn => ⟨e, fun z => nn (g6 c z)⟩
    refine ⟨M', _, r, ⟨rl.base, fun b hb => rl.fr b (g6 b hb), rl.mz, rl.pt, g7 _ sub na⟩, h2, ?_⟩
    exact fxOk_mono kk k
  · cases h1
theorem xsif {c : Expr} {xs ys : List Stmt} (hc : PT X c (lfT X.K Z t)) (ha : PSs X xs (lfSx X.K X.mg Z W f)) (hb : PSs X ys (lfSx X.K X.mg Z W g)) : PS X (.If c xs ys pos) (lfSx X.K X.mg Z W (xsIf t f g)) := PSimp (ps_if hc ha hb) fun D σ H h => by
  obtain ⟨M, s, r, rl, h1, k⟩ := h
  unfold xsIf at h1
  simp only [Option.bind_eq_some_iff] at h1
  obtain ⟨⟨c1, s1⟩, h1, h2⟩ := h1
  refine ⟨M, s, c1, s1, rl, h1, fun H1 k1 r1 => ?_⟩
  have k' := fxOk_mono k1 k
  cases c1 with
  | true => exact ⟨M, s1, r, r1, h2, k'⟩
  | false => exact ⟨M, s1, r, r1, h2, k'⟩
theorem xsifx {c : Expr} {xs ys : List Stmt} (hc : PT X c (lfTx X.K X.mg Z W tx)) (ha : PSs X xs (lfSx X.K X.mg Z W f)) (hb : PSs X ys (lfSx X.K X.mg Z W g)) : PS X (.If c xs ys pos) (lfSx X.K X.mg Z W (xsIfX tx f g)) := PSimp (ps_if hc ha hb) fun D σ H h => by
  obtain ⟨M, s, r, rl, h1, k⟩ := h
  unfold xsIfX at h1
  simp only [Option.bind_eq_some_iff] at h1
  obtain ⟨r1, h1, h2⟩ := h1
  refine ⟨M, s, r1, rl, h1, ?_⟩
  cases r1 with
  | ex c s' => cases h2; exact ExAt.toE k
  | ok p =>
    obtain ⟨c1, s1⟩ := p
    refine fun H1 k1 rl1 => ?_
    have k' := fxOk_mono k1 k
    cases c1 with
    | true => exact ⟨M, s1, r, rl1, h2, k'⟩
    | false => exact ⟨M, s1, r, rl1, h2, k'⟩
theorem xsret (he : PE X e (lftx X.K X.mg Z W xa)) : PS X (.Return (some e) pos) (lfSx X.K X.mg Z W (xsRet xa)) := PSimp (ps_ret he) fun D σ H h => by
  obtain ⟨M, s, r, rl, h1, k⟩ := h
  unfold xsRet at h1
  simp only [Option.map_eq_some_iff] at h1
  obtain ⟨r1, h1, h2⟩ := h1
  refine ⟨M, s, r1, rl, h1, ?_⟩
  cases r1 with
  | ex c s' => cases h2; exact ExAt.toE k
  | ok p => cases h2; exact fun v H1 k1 r1 t1 => k M σ H1 v k1 r1 t1
theorem xsdrop (he : PE X e (lftx X.K X.mg Z W xa)) (hs : swapsWith e none pos.line X.env = pure false := by rfl) : PS X (.Expr e pos) (lfSx X.K X.mg Z W (xsDrop xa)) := PSimp (ps_expr he hs) fun D σ H h => by
  obtain ⟨M, s, r, rl, h1, k⟩ := h
  unfold xsDrop at h1
  simp only [Option.map_eq_some_iff] at h1
  obtain ⟨r1, h1, h2⟩ := h1
  refine ⟨M, s, r1, rl, h1, ?_⟩
  cases r1 with
  | ex c s' => cases h2; exact ExAt.toE k
  | ok p => cases h2; exact fun v H1 k1 r1 t1 => k M σ H1 k1 r1
theorem xsset {i : Nat} {x : Str} {pos' : Pos} (hN : X.N.Nodup) (hi : X.N[i]? = some x) (hx : Loc X.env.scope x) (he : PE X e (lftx X.K X.mg Z W xa)) (hs : swapsWith e (some (.Name x pos')) pos.line X.env = pure false := by rfl)
    (hf : X.fn x = true ∨ X.env.scope.names.lookup x = some .local := by first | exact .inl rfl | exact .inr rfl | assumption) : PS X (.Assign [.Name x pos'] e pos) (lfSx X.K X.mg Z W (xsSet i xa)) := PSimp (ps_set hN hi hx he hs hf) fun D σ H h => by
  obtain ⟨M, s, r, rl, h1, k⟩ := h
  unfold xsSet at h1
  simp only [Option.map_eq_some_iff] at h1
  obtain ⟨r1, h1, h2⟩ := h1
  refine ⟨M, s, r1, rl, h1, ?_⟩
  cases r1 with
  | ex c s' => cases h2; exact ExAt.toE k
  | ok p =>
    cases h2
    refine fun v H1 k1 r1 t1 => ?_
    obtain ⟨M', _, r2, k2⟩ := r1.setDat t1 i
    exact k M' _ H1 (k1.trans k2) r2
theorem xsasg {tg : Expr} {g : TG} {gd : PyData → Sl → Option Sl} (he : PE X e (lftx X.K X.mg Z W xa)) (hg : PG X tg g) (hgd : TgOk X.K g gd) (hs : swapsWithSole [tg] e pos.line X.env = pure false := by rfl) (hw : swappedStores [tg] e X.env = pure none := by rfl)
    (h1 : (assignEach [tg] X.env).map (·.2) = [assign tg X.env] := by rfl) : PS X (.Assign [tg] e pos) (lfSx X.K X.mg Z W (xsAsg xa gd)) := PSimp (ps_asg he hg hs hw h1) fun D σ H h => by
  obtain ⟨M, s, r, rl, hf, k⟩ := h
  unfold xsAsg at hf
  simp only [Option.bind_eq_some_iff] at hf
  obtain ⟨r1, h1, h2⟩ := hf
  refine ⟨M, s, r1, rl, h1, ?_⟩
  cases r1 with
  | ex c s' => cases h2; exact ExAt.toE k
  | ok p =>
    simp only [Option.map_eq_some_iff] at h2
    obtain ⟨s2, h2, h3⟩ := h2
    cases h3
    exact fun v H1 k1 r1 t1 => hgd Z M σ H1 p.2 s2 v p.1 _ r1 t1 h2 fun M' σ' r2 k2 => k M' σ' H1 (k1.trans k2) r2
theorem xsraise {x m : Str} {j : Nat} {p p2 pos : Pos} {pos' : Pos} (c : ExcK X.K X.mg x) (hc : X.calm = true) (tk : Takes X W) (hg : Gl X x) (hdb : (x == ("__debug__" : Str)) = false := by decide) :
    PS X (.Raise (some (.Call (.Name x p) [.Constant (.str m) j p2] [] pos)) none pos') (lfSx X.K X.mg Z W (xsRaise x)) := by
  obtain ⟨C, hm, q1, q2, q3, q4⟩ := c.at_
  refine PSimp (ps_raise hc tk (pmk_own PySem.F.excBase_ValueError q1 hm q2 (raises_own q3 q4) hg hdb)) fun D σ H h => ?_
  obtain ⟨M, s, r, rl, hf, k⟩ := h
  cases hf
  exact k C M σ H hm (Kq.refl _ _ _) rl
end

/-! #### defs -/
def outX : Option Fx → Option (Rx PyData)
  | some (.fl (.rt d _)) => some (.ok d)
  | some (.fl (.nx _)) => some (.ok .none)
  | some (.ex c _) => some (.ex c)
  | _ => none
def fnX (N : List Str) (n : Nat) (b : DSx) : List PyData → Option (Rx PyData) := fun ds => if ds.length = n then outX (b (startS N ds)) else none
section
variable {P : Program} {w : World} {K : PySem.W.Frag} {mg : Str → Option Value} {base : Heap}
theorem okX {x qual : Str} {st : Stmt} {f : Addr} {fd : FuncData} {N ps : List Str} {k : Nat} {b : DSx} (F : Fun K x qual st f fd) (S : FnScope N ps (defScope st))
    (hb : ∀ (cdv : Value) (A : Around) (outer : List Env) (s : Shared) (H : Hp) (E : XK) (Z : Par), Room k (A.deeper (envOfC qual (defScope st) s.heap.objs.size f cdv)) → PSs (cxOf (L2.CX P w) P w K mg base N qual (defScope st) f cdv A outer s H E) (defBody st) (lfSx K mg Z (fun cls d _ H => E cls d H) b)) :
    FnOk P w K mg base (L2.CX P w) (k + 1) f fd ps (spX K mg (fnX N ps.length b)) := by
  refine F.okX S (fun vs H Q E h => ?_) (fun cdv A outer s H vs Q E hr h => ?_)
  · obtain ⟨mu, ds, d, h1, h2, h3, h4⟩ := h
    unfold fnX at h3
    split at h3
    · rename_i hl
      rw [h2.len]; exact hl
    · cases h3
  · obtain ⟨mu, ds, d, h1, h2, h3, h4⟩ := h
    unfold fnX at h3
    split at h3
    case isFalse => cases h3
    rename_i hl
    let Z : Par := ⟨H, [], mu, .nil⟩
    refine ⟨_, hb cdv A outer s H E Z hr, [], startS N ds, ?_⟩
    have muE : ∀ a, Mu Z [] a → mu a := fun a q => by
      rcases q with q | q | q
      · exact q
      · cases q
      · cases q
    have r : Rel K Z [] (start N vs) H (startS N ds) := by
      refine ⟨fun a o e _ => e, fun a ha => (by cases ha), h1, fun a ha => (by cases ha), ?_⟩
      unfold startS L2.start
      rw [h2.len]
      exact slAll_start _ (h2.mono fun a o e n => ⟨e, fun z => n (muE a z)⟩)
    unfold outX at h3
    split at h3
    · rename_i d1 s1 hq
      cases h3
      refine ⟨_, r, hq, fun M σ H1 v k1 r1 t1 => h4 v H1 (fun a o e => r1.base a o e (fun z => by cases z)) (t1.mono fun a o e n => ⟨e, fun z => n (.inl z)⟩)⟩
    · rename_i s1 hq
      cases h3
      refine ⟨_, r, hq, fun M σ H1 k1 r1 => h4 _ H1 (fun a o e => r1.base a o e (fun z => by cases z)) .non⟩
    · rename_i c s1 hq
      cases h3
      exact ⟨_, r, hq, fun C M σ H' hm k1 r1 => h4 C H' hm fun a o e => r1.base a o e fun z => by cases z⟩
    · cases h3
theorem calX {x : Str} {st : Stmt} {N ps : List Str} {k : Nat} {b : DSx} (F : Std K mg x st ps) (S : FnScope N ps (defScope st))
    (hb : ∀ (f : Addr) (cdv : Value) (A : Around) (outer : List Env) (s : Shared) (H : Hp) (E : XK) (Z : Par), Room k (A.deeper (envOfC x (defScope st) s.heap.objs.size f cdv)) → PSs (cxOf (L2.CX P w) P w K mg base N x (defScope st) f cdv A outer s H E) (defBody st) (lfSx K mg Z (fun cls d _ H => E cls d H) b)) :
    CalX P w K mg base (k + 1) x ps (spX K mg (fnX N ps.length b)) := by
  obtain ⟨f, fd, F, hm, hb2⟩ := F
  exact ⟨f, fd, okX F S (fun cdv A outer s H E Z hr => hb f cdv A outer s H E Z hr), hm, F.kp, hb2⟩
end
end Dl

/-! ### an exception caught and kept by a name -/
namespace Dl
open PySem PySem.Spec PyProof.Rows L2
section
variable {X : Cx} {pins : List (Addr × Obj)} {σ : L2.St} {H : Hp} {s : Shared} {a C : Addr}
theorem exZ_ok {P : Program} {w : World} {H : Hp} {h : Heap} {oe : Obj} {vs : Array Value} (e : h.get? a = some oe) (z : Zc (.ref C) none oe) (d : oe.data = .fields vs) : ObjOk P w H h a (ExZ C a) :=
  ⟨⟨oe, e, z, vs, d⟩, ⟨oe, e⟩, fun _ _ ⟨u, q, r⟩ k => ⟨u, k u q, r⟩⟩
/-- an object that came after the entry, not yet read, is read as an exception from here on -/
theorem Inv.notes (I : Inv X pins σ H s) {oe : Obj} {vs : Array Value} (e : s.heap.get? a = some oe) (z : Zc (.ref C) none oe) (d : oe.data = .fields vs) (hn : H a = none) (young : X.s_0.heap.get? a = none) (nl : a ≠ X.env.locals) (np : ∀ p ∈ X.pn ++ pins, p.1 ≠ a) : Inv X pins σ (upd H a (ExZ C a)) s := by
  have old : ∀ b o, X.s_0.heap.get? b = some o → b ≠ a := fun b o q w => by
    rw [w, young] at q
    cases q
  have stands : ∀ b u, H b = some u → upd H a (ExZ C a) b = some u := fun b u q => by
    rw [upd_ne (ne_of_none q hn)]
    exact q
  have ncell : ∀ x c, X.env.cells.lookup x = some c → c ≠ a := fun x c q w => by
    obtain ⟨v, o, h1, h2⟩ := I.cell x c q
    rw [w, e] at h1
    cases h1
    have h3 : oe.data = Data.cell v := h2
    rw [d] at h3
    cases h3
  exact {
    ok := I.ok
    os := I.os
    bare := I.bare
    base := {
      keep := I.base.keep
      slot := I.base.slot
      free := fun b o q n x => by
        rw [upd_ne (old b o q)]
        exact I.base.free b o q n x
      there := I.base.there
      tups := fun b xs q => stands _ _ (I.base.tups b xs q)
      frzs := fun b o u q => stands _ _ (I.base.frzs b o u q)
      tbls := fun b ps q => by
        obtain ⟨m, r⟩ := I.base.tbls b ps q
        exact ⟨m, stands _ _ r⟩ }
    loc := I.loc
    cell := I.cell
    free := by
      rw [upd_ne (fun w => nl w.symm)]
      exact I.free
    freeC := fun x c q => by
      rw [upd_ne (ncell x c q)]
      exact I.freeC x c q
    pin := fun p hp => by
      obtain ⟨h1, h2, h3⟩ := I.pin p hp
      exact ⟨h1, by rw [upd_ne (np p hp)]; exact h2, h3⟩
    hok := fun b u q => by
      by_cases hb : b = a
      · subst hb
        rw [upd_same] at q
        cases q
        exact exZ_ok e z d
      · rw [upd_ne hb] at q
        exact (I.hok b u q).stay (fun _ _ _ r => r) (fun c r => stands _ _ r) fun c xs r => stands _ _ r
    len := I.len }
end
/-- what is wished of an exception of a body whose clause keeps it: slot j has it, slot i is wiped -/
def wKeep (K : PySem.W.Frag) (c : Value) (i j n : Nat) (D : Ends) : WX := fun cls d σ H =>
  ∃ C : Addr, cls = .ref C ∧ d = none ∧ PySem.W.exmOne K (.ref C) c = some true ∧ (σ.length = n → ∀ a, H a = none → D.nx (((σ.set i (some (.ref a))).set j (some (.ref a))).set i none) (upd H a (ExZ C a)))
section
variable {X : Cx} {x n y : Str} {c : Value} {i j : Nat} {body : List Stmt} {np py pn pa pos pos' : Pos} {tb : WX → TS}
theorem ps_try_keep (hs : X.stack = X.env :: X.outer) (hf : X.env.frame = some X.env.locals) (hex : X.ex = []) (hN : X.N.Nodup) (hi : X.N[i]? = some n) (hln : X.env.kindOf n = some .local) (hj : X.N[j]? = some y) (hly : Loc X.env.scope y) (hc : Names X x c)
    (hb : ∀ (W : WX) (pn : List (Addr × Obj)) (xe : Value → Shared → Prop), Takes (X.tr pn xe) W → PassesOwn (model X.prog X.w) X.A X.env xe → PSs (X.tr pn xe) body (tb W))
    (hsu : ∀ (a : Addr) (oe : Obj) (pl : List (Addr × Obj)), PSs (X.suite a ((a, oe) :: pl)) [.Assign [.Name y py] (.Name n pn) pa] (fun D σ H => ∃ v, σ[i]? = some (some v) ∧ D.nx (σ.set j (some v)) H)) (hil : i < X.N.length) :
    PS X (.Try body [.ExceptHandler (some (.Name x np)) (some n) [.Assign [.Name y py] (.Name n pn) pa] pos'] [] [] pos) (fun D σ H => tb (wKeep X.K c i j X.N.length D) D σ H) := by
  refine ⟨fun pins s σ H D I h => ?_⟩
  have frames : X.A.frames = some (X.env :: X.outer) := I.ok.frames.trans (by rw [hs])
  have okX := I.ok
  have go := (hb (wKeep X.K c i j X.N.length D) (X.pn ++ pins) (fun ev t1 => wpAny (model X.prog X.w) X.A (noteFrame ev X.env) (fun _ t2 => wpAny (model X.prog X.w) X.A (setFlight ev none) (fun _ t3 =>
    wpAny (model X.prog X.w) X.A (handleBy ev X.env [.ExceptHandler (some (.Name x np)) (some n) [.Assign [.Name y py] (.Name n pn) pa] pos']) (SP X pins D) X.xe t3) X.xe t2) X.xe t1) (fun u t xx => ?_) PassesOwn.looking).run [] s σ H D (I.toTry _) h
  · refine wpAny_Try_except (wpAny_mono go (fun fl t done => ?_) fun _ _ z => z)
    cases fl with
    | next =>
      obtain ⟨σ1, H1, J, q⟩ := done
      exact wpAny_execs_nil ⟨σ1, H1, J.ofTry okX, q⟩
    | brk =>
      obtain ⟨σ1, H1, J, q⟩ := done
      exact ⟨σ1, H1, J.ofTry okX, q⟩
    | cont =>
      obtain ⟨σ1, H1, J, q⟩ := done
      exact ⟨σ1, H1, J.ofTry okX, q⟩
    | ret u =>
      obtain ⟨v, σ1, H1, J, r, q⟩ := done
      exact ⟨v, σ1, H1, J.ofTry okX, r, q⟩
  obtain ⟨a, B, tI, pl, σ1, H1, cls, dc, rfl, J0, inB, up, sky, na, os, bare, C, rfl, rfl, told, goal⟩ := xx
  have J : Inv X pins σ1 H1 tI := J0.ofTry okX
  have sky1 : Sky B (X.env :: X.outer) a (Zc (.ref C) none) X.env.locals t.heap := by rw [← hs]; exact sky
  show wpAny (model X.prog X.w) X.A (noteFrame (.ref a) X.env) _ _ _
  refine Sky.land Zc.steady frames hf sky1 fun h1 fly up1 => ?_
  have J1 : Inv X pins σ1 H1 { t with heap := h1 } := J.landed inB fly.1 (up.trans up1) os bare
  obtain ⟨o1, vs1, at1, z1, d1⟩ := fly.there
  have aFrame : a ∉ frs (X.env :: X.outer) := fun m => by
    obtain ⟨_, o2, at2, nof⟩ := fly.2.2.1.mem m
    rw [at1] at at2
    cases at2
    exact nof _ d1
  have aLoc : a ≠ X.env.locals := fun w => aFrame (List.mem_filterMap.mpr ⟨X.env, List.mem_cons_self, by rw [hf, w]⟩)
  have aFs : a ∉ X.fs := fun m => by
    obtain ⟨en, hen, q⟩ := List.mem_filterMap.mp m
    exact aFrame (List.mem_filterMap.mpr ⟨en, List.mem_cons_of_mem _ hen, q⟩)
  -- it wasn't there ahead
  have ahead : tI.heap.get? a = none := by
    cases q : tI.heap.get? a with
    | none => rfl
    | some o =>
      have w := inB a o q (by show a ∉ frs X.stack; rw [hs]; exact aFrame)
      rw [fly.2.1] at w
      cases w
  have young : X.s_0.heap.get? a = none := by
    cases q : X.s_0.heap.get? a with
    | none => rfl
    | some o =>
      obtain ⟨o', w⟩ := J.base.there a o q (by rw [hex]; exact List.not_mem_nil)
      rw [ahead] at w
      cases w
  have otherPins : ∀ p ∈ X.pn ++ pins, p.1 ≠ a := fun p hp w => by
    have q := (J.pin p hp).1
    rw [w, ahead] at q
    cases q
  refine wpAny_handleBy_cons (codeAny_handlers_test ?_) (by intro q; cases q)
  have ty : PySem.W.Looks (model X.prog X.w) h1 (typeOf (.ref a)) (.ref C) := fun _ _ _ _ k q => wpAny_typeOf_ref (k _ _ at1) (by rw [z1.1]; exact q)
  have matched := PySem.W.exm_one (M := model X.prog X.w) J1.kIn ty told
  have inSuite := J1.suite at1 d1 na aLoc aFs
  have named : ∀ {Q : Value → Shared → Prop} {F : Value → Shared → Prop}, Q c { t with heap := h1 } → wpAny (model X.prog X.w) (X.A.mark (some (.ref a))) (eval (.Name x np) X.env) Q F { t with heap := h1 } := fun {Q F} q => by
    obtain ⟨g1, g2, g3 | ⟨g3, g4, g5⟩⟩ := hc
    · exact ld_glob (X := X.suite a ((a, o1) :: (X.pn ++ pins))) inSuite g1 g3 q g2
    · exact ld_blt (X := X.suite a ((a, o1) :: (X.pn ++ pins))) inSuite g1 g3 g4 q g5 g2
  refine named (matched.here (codeAny_handlers_suite_as ?_))
  refine HandSPX.lands_againZ fly fun h2 fly2 up2 => ?_
  have J2 : Inv X pins σ1 H1 { t with heap := h2 } := J.landed inB fly2.1 ((up.trans up1).trans up2) os bare
  obtain ⟨o2, vs2, at2, z2, d2⟩ := fly2.there
  have inSuite2 := J2.suite at2 d2 na aLoc aFs
  refine store_ok (X := X.suite a ((a, o2) :: (X.pn ++ pins))) (v := .ref a) inSuite2 hN hi (.inl hln) rfl (fun t3 S3 => ?_) (.inr hln)
  have slot : (σ1.set i (some (V.ref a)))[i]? = some (some (.ref a)) := by
    rw [List.getElem?_set_self (by rw [J.len]; exact hil)]
  refine wpAny_mono ((hsu a o2 (X.pn ++ pins)).run [] t3 _ H1 { nx := fun σ' H' => σ' = (σ1.set i (some (V.ref a))).set j (some (.ref a)) ∧ H' = H1, rt := fun _ _ => False } S3 ⟨.ref a, slot, rfl, rfl⟩) (fun fl t4 done => ?_) fun _ _ z => z.elim
  cases fl with
  | next =>
    obtain ⟨σ4, H4, S4, e1, e2⟩ := done
    subst e1 e2
    obtain ⟨at4, _⟩ := S4.pin (a, o2) (List.mem_append_left _ List.mem_cons_self)
    have J4 : Inv X pins _ H4 t4 := S4.unsuite okX
    exact gone_ok (Dl.Inv.notes J4 at4 z2 d2 na young aLoc otherPins) hN hi hln fun t5 J5 => ⟨_, _, J5, goal J.len a na⟩
  | brk => obtain ⟨_, _, _, z⟩ := done; exact z.elim
  | cont => obtain ⟨_, _, _, z⟩ := done; exact z.elim
  | ret u => obtain ⟨_, _, _, _, _, z⟩ := done; exact z.elim
end
end Dl

/-! ### a lambda handed to a def that tells which exception came -/
namespace Dl
open PySem PySem.Spec PyProof.Rows L2
/-- the table at P, all of whose code objects bear the name q -/
def Tabl (H : Hp) (P : Addr) (q : Str) (old : Addr → Prop) : Prop := ∃ ps : Array Value, H P = some (.tbl ps) ∧ TriplesOk ps.toList ∧ ∀ (pos : Pos) (cv : Value), codeAmong pos ps.toList = some cv → ∃ c, cv = .ref c ∧ H c = some (LamX.CodeO c q) ∧ old c
section
variable {X : Cx} {pins : List (Addr × Obj)} {σ : L2.St} {H : Hp} {s : Shared}
/-- a lambda is made: nothing but the table and new objects changes -/
theorem lam_new {c P : Addr} {old : Addr → Prop} {ps0 : Arguments} {body : Expr} {scope : Scope} {pos : Pos} {F : Value → Shared → Prop} {Q : Value → Shared → Prop} (I : Inv X pins σ H s) (TB : LamX.TabB X.base X.mg c P) (hcode : X.env.code = .ref c)
    (tab : Tabl H P (X.env.qual ++ "<lambda>") old) (hdef : defaultsOf ps0 X.env = ([], [])) (hfree : ∀ y ∈ scope.names, y.2 = .free → ∃ c, X.env.cells.lookup y.1 = some c)
    (h : ∀ (f c' : Addr) (pm ctv : Value) (H1 : Hp) (s1 : Shared), Inv X pins σ H1 s1 → (∀ b o, b ≠ P → H b = some o → H1 b = some o) → Tabl H1 P (X.env.qual ++ "<lambda>") (fun c => old c ∨ H c = none) →
      s1.heap.get? f = some (PySem.W.kla_obj "<lambda>" (X.env.qual ++ "<lambda>") ps0 body scope (cloFrom X.env.cells scope.names []) pm c' ctv) → H1 f = none → f ∉ frs X.stack → H1 c' = some (LamX.CodeO c' (X.env.qual ++ "<lambda>")) → Q (.ref f) s1) :
    wpAny (model X.prog X.w) X.A (eval (.Lambda ps0 body scope pos) X.env) Q F s := by
  obtain ⟨ps, atP, tr, codes⟩ := tab
  have mods : s.heap.BuiltinsAt X.mg P := TB.bm.keeps I.bk
  have inHeap := I.hok P _ atP
  have outside : ∀ z, s.heap.objs.size ≤ z → z ∉ frs X.stack := fun z hz m => (List.mem_cons.mp (I.stkSub _ m)).elim (fun e => absurd I.lt (by rw [← e]; exact Nat.not_lt.mpr hz)) (I.nofs hz)
  refine PySem.W.kla_eval hdef ?_
  rcases found : codeAmong pos ps.toList with _ | cv
  · refine PySem.W.kla_makeFunction (closure_ok hfree) I.ok.glob (I.mod.glob.keeps I.bk) hcode (TB.code.keeps I.bk) inHeap tr found TB.gP mods fun c' ctv hp tk ext ge lt rec here => ?_
    obtain ⟨_, oc, us, u, e, g1, g2, g3⟩ := rec
    cases e
    have new : H c' = none := I.hok.fresh ge
    have J := LamX.inv_table (t' := tk) (more := #[rawInt pos.line, rawInt pos.col, .ref c']) (h' := hp.push (PySem.W.kla_obj "<lambda>" (X.env.qual ++ "<lambda>") ps0 body scope (cloFrom X.env.cells scope.names []) ((X.mg "__name__").getD .none) c' ctv)) I atP
      (fun b o nb e => Heap.get?_push_of_some _ (ext b o nb e)) (Heap.get?_push_of_some _ here) ge ⟨oc, us, u, Heap.get?_push_of_some _ g1, g2, g3⟩
    have stays : ∀ b o, b ≠ P → H b = some o → (upd (upd H P (.tbl (ps ++ #[rawInt pos.line, rawInt pos.col, .ref c']))) c' (LamX.CodeO c' (X.env.qual ++ "<lambda>"))) b = some o := fun b o nb e => by
      rw [upd_ne (ne_of_none e new), upd_ne nb]; exact e
    have two : (ps ++ #[rawInt pos.line, rawInt pos.col, .ref c']).toList = ps.toList ++ [rawInt pos.line, rawInt pos.col, .ref c'] := by simp
    have behind : s.heap.objs.size ≤ hp.objs.size := by omega
    refine h hp.objs.size c' ((X.mg "__name__").getD .none) ctv _ _ J stays ⟨ps ++ #[rawInt pos.line, rawInt pos.col, .ref c'], ?_, ?_, fun p2 cv hcv => ?_⟩ (Heap.get?_push_size _ rfl) ?_ (outside _ behind) upd_same
    · rw [upd_ne (ne_of_none atP new), upd_same]
    · rw [two]; exact TriplesOk_snoc _ _ _ _ tr
    · rw [two] at hcv
      rcases LamX.among_app _ tr hcv with z | z
      · obtain ⟨d, e1, e2, e3⟩ := codes p2 cv z
        refine ⟨d, e1, stays d _ (fun w => ?_) e2, .inl e3⟩
        rw [w, atP] at e2
        exact LamX.codeO_ne ps (Option.some.inj e2).symm
      · exact ⟨c', z, upd_same, .inr new⟩
    · rw [upd_ne (Nat.ne_of_gt lt), upd_ne (Nat.ne_of_gt (Nat.lt_of_lt_of_le (Heap.lt_size inHeap) behind))]
      exact I.hok.fresh behind
  · obtain ⟨c', e, co, ol⟩ := codes pos cv found
    subst e
    refine PySem.W.kla_makeFunctionHit (closure_ok hfree) I.ok.glob (I.mod.glob.keeps I.bk) hcode (TB.code.keeps I.bk) inHeap tr found mods fun ctv hp tk ext behind => ?_
    refine h hp.objs.size c' ((X.mg "__name__").getD .none) ctv H _ (I.kept (h' := hp.push (PySem.W.kla_obj "<lambda>" (X.env.qual ++ "<lambda>") ps0 body scope (cloFrom X.env.cells scope.names []) ((X.mg "__name__").getD .none) c' ctv)) (t' := tk) fun b o e => Heap.get?_push_of_some _ (ext b o e)) (fun _ _ _ e => e) ⟨ps, atP, tr, fun p2 cv z => ?_⟩ (Heap.get?_push_size _ rfl) (I.hok.fresh behind) (outside _ behind) co
    obtain ⟨d, e1, e2, e3⟩ := codes p2 cv z
    exact ⟨d, e1, e2, .inl e3⟩
def tWord (P : Addr) (q : Str) (TT : (XK → Hp → VK → Prop) → Hp → VK → Prop) (t : XK → TE) : TE := fun σ H Q => ∃ old : Addr → Prop, Tabl H P q old ∧ ∀ H1, (∀ b o, b ≠ P → H b = some o → H1 b = some o) → Tabl H1 P q (fun c => old c ∨ H c = none) → TT (fun E H' Q' => t E σ H' Q') H1 Q
/-- x(lambda: body) -/
theorem pe_word {TT : (XK → Hp → VK → Prop) → Hp → VK → Prop} {x a : Str} {g c P : Addr} {k : Nat} {pg : Arguments} {bg : List Stmt} {sg : Scope} {dV kV doc pm cdv ct oc : Value} {an od : Option Addr} {osl : Array (Option Value)} {Ng : List Str}
    {ps0 : Arguments} {body : Expr} {scope : Scope} {t : XK → TE} {p lpos pos : Pos} (hg : Gl X x) (hm : X.mg x = some (.ref g)) (hk : PySem.W.keepIn X.K (.ref g) = true)
    (lk : X.K.lookup g = some ⟨oc, od, .func (PySem.W.fnOf x x pg bg sg dV kV doc pm an cdv ct), osl⟩) (hcg : PySem.W.codeIn X.K cdv x = true) (hb : L2.Binds X.K (PySem.W.fnOf x x pg bg sg dV kV doc pm an cdv ct) [a] []) (Sg : FnScope Ng [a] sg) (hNg : Ng[0]? = some a) (hva : Vis sg a)
    (hG : LamX.GivesTo X Ng x sg g cdv bg a (X.env.qual ++ "<lambda>") TT)
    (TB : LamX.TabB X.base X.mg c P) (hcode : X.env.code = .ref c) (hr : Room (k + 2) X.A) (L : LamX.LamS X.env.scope scope) (hdef : defaultsOf ps0 X.env = ([], []))
    (hbind : ∀ (q : Str) (cl : List (Str × Addr)) (pm cv ctv : Value), bindArgs (PySem.W.kla_fn "<lambda>" q ps0 body scope cl pm cv ctv) ⟨[], []⟩ = pure [])
    (hbody : ∀ (A : Around) (outer : List Env) (s : Shared) (H : Hp) (E : XK) (f c' : Addr), Room k (A.deeper (LamX.lamEnv X scope s.heap.objs.size f c')) → PE (LamX.lamCx X A outer s H E scope f c') body (t E))
    (hdb : (x == ("__debug__" : Str)) = false := by decide) (hd : (a == ("__debug__" : Str)) = false := by decide) (hcd : (a == ("__classdict__" : Str)) = false := by decide) :
    PE X (.Call (.Name x p) [.Lambda ps0 body scope lpos] [] pos) (tWord P (X.env.qual ++ "<lambda>") TT t) := by
  refine ⟨fun pins s σ H Q I ⟨old, tab, goal⟩ => wpAny_Call_Name_kw (ld_glob I hg hm ?_ hdb)⟩
  refine PySem.W.callWith_K (h₀ := X.base) I.ok.mod.kin hk ?_ (by rfl) (by rfl)
  show wpAny _ _ (spliced ((false, eval (.Lambda ps0 body scope lpos) X.env) :: backTo pos (starEach [] X.env))) _ _ s
  refine Calls.spliced_cons (lam_new I TB hcode tab hdef (L.has I.ok) fun f c' pmv ctv H1 t1 J stays tab1 atF newF outF atC => Calls.spliced_nil ⟨J.kIn, ?_⟩)
  have ran : codeAny (model X.prog X.w) X.A (.call (.ref g) ⟨[.ref f], []⟩) (CR C8.CX0 X.stack X.prog X.w H1 t1 Q C8.E0) t1 := by
    refine LamX.run_ofS (N := Ng) (ps := [a]) (us := [.ref f]) (vs := [.ref f]) lk hcg Sg hr J.env0 (hb t1 [.ref f] J.kIn rfl) (.cons rfl .nil) rfl fun room => ?_
    obtain ⟨tt, run, ready⟩ := hG f c' t1 H1 Q (fun E H' Q' => t E σ H' Q') (fun W pn xe E p1 p2 tk hW => LamX.pe_act (i := 0) J L atF newF outF (hbind _ _ _ _ _) tk hW room (fun A outer s H r2 => hbody A outer s H E f c' r2) hNg hva hd hcd) atC (goal H1 stays tab1)
    exact ⟨tt, run.nox, ready⟩
  refine wpAny_call (codeAny_mono ran fun r t2 hq => ?_)
  match r, hq with
  | .ok (.ret u), hq => exact J.after hq
  | .ok .next, z => exact z.elim
  | .ok .brk, z => exact z.elim
  | .ok .cont, z => exact z.elim
  | .error _, z => exact (show False from z).elim
end
/-- names on which the table is seen: just these -/
def okTab (s : Sl) (k : Nat) (q : Str) : Bool := s.any (fun v => match v with | .tab i z => decide (i = k) && decide (z = q) | _ => false) && s.all (fun v => match v with | .tab i z => decide (i = k) && decide (z = q) | _ => true)
section
variable {K : PySem.W.Frag} {mu mu' : Addr → Prop} {H H' : Hp} {p : List Addr} {Z : Par} {M M' : List Addr} {σ : L2.St} {s : Sl} {q : Str}
theorem SlAll.tabAt {k : Nat} : ∀ {σ : L2.St} {s : Sl} {M : List Addr}, SlAll K mu p H σ s M → s.any (fun v => match v with | .tab i z => decide (i = k) && decide (z = q) | _ => false) = true → ∃ P, p[k]? = some P ∧ Tabl H P q (fun c => ¬ mu c)
  | _, _, _, .nil, e => by cases e
  | _, _, _, .dat _ t, e => SlAll.tabAt t (by simpa using e)
  | _, _, _, .no t, e => SlAll.tabAt t (by simpa using e)
  | _, _, _, .rf t, e => SlAll.tabAt t (by simpa using e)
  | _, _, _, .own _ _ _ t, e => SlAll.tabAt t (by simpa using e)
  | _, _, _, .pot _ _ _ t, e => SlAll.tabAt t (by simpa using e)
  | _, _, _, .dic _ _ t, e => SlAll.tabAt t (by simpa using e)
  | _, _, _, .tab (q := z) e0 h d f t, e => by
    rw [List.any_cons, Bool.or_eq_true] at e
    rcases e with e | e
    · rw [Bool.and_eq_true] at e
      have e' : z = q := of_decide_eq_true e.2
      have e2 := of_decide_eq_true e.1
      subst e' e2
      exact ⟨_, e0, _, h, d, f⟩
    · exact SlAll.tabAt t e
theorem SlAll.reTab {j : Nat} {P : Addr} {ps0 : Array Value} (hp : p[j]? = some P) (was : H P = some (.tbl ps0)) (k : ∀ b o, b ≠ P → H b = some o → H' b = some o) (n : ∀ a, a ∈ M' → a ≠ P) (kk : Kp mu H mu H') (now : Tabl H' P q (fun c => ¬ mu c)) :
    ∀ {σ : L2.St} {s : Sl} {M : List Addr}, SlAll K mu p H σ s M → (∀ a ∈ M, a ∈ M') → s.all (fun v => match v with | .tab i z => decide (i = j) && decide (z = q) | _ => true) = true → SlAll K mu p H' σ s M := by
  intro σ s M t
  induction t with
  | nil => intro _ _; exact .nil
  | dat h t ih => intro hs e; exact .dat (h.mono kk) (ih hs (by simpa using e))
  | no t ih => intro hs e; exact .no (ih hs (by simpa using e))
  | rf t ih => intro hs e; exact .rf (ih hs (by simpa using e))
  | own h d m t ih => intro hs e; exact .own (k _ _ (n _ (hs _ List.mem_cons_self)) h) (d.mono kk) m (ih (fun a ha => hs a (List.mem_cons_of_mem _ ha)) (by simpa using e))
  | dic h m t ih => intro hs e; exact .dic (h.mono kk fun o => k _ _ (n _ (hs _ List.mem_cons_self))) m (ih (fun a ha => hs a (List.mem_cons_of_mem _ ha)) (by simpa using e))
  | pot e0 h d t ih =>
    intro hs e
    exact .pot e0 (k _ _ (fun z => by subst z; rw [was] at h; cases h) h) (d.mono kk) (ih hs (by simpa using e))
  | @tab i x a ps z σ s M e0 h d f t ih =>
    intro hs e
    rw [List.all_cons, Bool.and_eq_true, Bool.and_eq_true] at e
    have e' : z = q := of_decide_eq_true e.1.2
    have e2 : i = j := of_decide_eq_true e.1.1
    subst e' e2
    rw [hp] at e0
    cases e0
    obtain ⟨ps, h1, h2, h3⟩ := now
    exact .tab hp h1 h2 h3 (ih hs e.2)
end
/-- what `_law_word` says of how a call ended -/
def dWord (k : Nat) (q : Str) (wd : Option Str → Option Str) (m : List PyData → Option (Rx PyData)) (g : DA) : DE := fun s => if okTab s k q = true then (g s).bind fun p => (m p.1).bind fun r => (wd (match r with
    | .ok _ => none
    | .ex c => some c)).map fun w => (.str w, p.2) else none
def TTw (K : PySem.W.Frag) (nm : List Str) (wd : Option Str → Option Str) : (XK → Hp → VK → Prop) → Hp → VK → Prop := fun tl H Q => ∀ (E' : XK) (Q' : VK),
  (∀ (c w : Str) (H' : Hp), c ∈ nm → wd (some c) = some w → (∀ H'', (∀ a o, H' a = some o → H'' a = some o) → Q (.str w) H'') → E' (.ref (He.ga K c)) none H') →
  (∀ (v : V) (w : Str) (H' : Hp), wd none = some w → (∀ H'', (∀ a o, H' a = some o → H'' a = some o) → Q (.str w) H'') → Q' v H') → tl E' H Q'
/-- the names of the exceptions that may come stand where the head has them -/
def Nmd (K : PySem.W.Frag) (mg : Str → Option Value) (nm : List Str) : Prop := ∀ c ∈ nm, mg c = some (.ref (He.ga K c))
section
variable {X : Cx} {Z : Par} {ga : DA}
theorem lift_word {j : Nat} {P : Addr} {q : Str} {wd : Option Str → Option Str} {m : List PyData → Option (Rx PyData)} {nm : List Str} (hZ : Z.p[j]? = some P) (hn : Nmd X.K X.mg nm) (in_ : ∀ c w, wd (some c) = some w → c ∈ nm) {σ : L2.St} {H : Hp} {Q : VK} (h : lft X.K Z (dWord j q wd m ga) σ H Q) :
    tWord P q (TTw X.K nm wd) (fun E => lftx X.K X.mg Z (fun cls d _ H => E cls d H) (xCall m ga)) σ H Q := by
  obtain ⟨M, s, d, s', rl, hf, k⟩ := h
  unfold dWord at hf
  split at hf
  case isFalse => cases hf
  rename_i ok
  simp only [Option.bind_eq_some_iff, Option.map_eq_some_iff] at hf
  obtain ⟨⟨ds, s1⟩, h1, r, h2, w, h3, h4⟩ := hf
  cases h4
  have hZm := List.mem_of_getElem? hZ
  unfold okTab at ok
  rw [Bool.and_eq_true] at ok
  obtain ⟨P', e, tab⟩ := rl.sl.tabAt ok.1
  rw [hZ] at e
  cases e
  refine ⟨_, tab, fun H1 stays tab1 E' Q' hE hQ => ?_⟩
  obtain ⟨ps0, was, _, _⟩ := tab
  have nM : ∀ a ∈ M, a ≠ P := fun a ha e => (rl.fr a ha).2.1 (by rw [e]; exact hZm)
  have nmu : ∀ a, ¬ Mu Z M a → a ≠ P := fun a n e => n (.inr (.inl (by rw [e]; exact hZm)))
  have kk : Kp (Mu Z M) H (Mu Z M) H1 := fun a o e n => ⟨stays a o (nmu a n) e, n⟩
  have tab2 : Tabl H1 P q (fun c => ¬ Mu Z M c) := by
    obtain ⟨ps, g1, g2, g3⟩ := tab1
    refine ⟨ps, g1, g2, fun pos cv z => ?_⟩
    obtain ⟨c, e1, e2, e3⟩ := g3 pos cv z
    refine ⟨c, e1, e2, e3.elim id fun e0 n => ?_⟩
    obtain ⟨o, e⟩ := rl.muT c n
    rw [e0] at e
    cases e
  have kq : Kq Z M H M H1 := fun a o e n1 n2 => ⟨stays a o (fun z => n1 (by rw [z]; exact hZm)) e, n2⟩
  have there : ∀ a o, H a = some o → ∃ u, H1 a = some u := fun a o e => by
    by_cases z : a = P
    · obtain ⟨ps, g1, _⟩ := tab2
      exact ⟨_, by rw [z]; exact g1⟩
    · exact ⟨o, stays a o z e⟩
  have rl1 : Rel X.K Z M σ H1 s := by
    refine ⟨fun a o e n => stays a o (fun z => n (by rw [z]; exact hZm)) (rl.base a o e n), fun a ha => ?_, fun a ha => let ⟨o, e⟩ := rl.mz a ha; there a o e, fun a ha => let ⟨o, e⟩ := rl.pt a ha; there a o e, ?_⟩
    · obtain ⟨f1, f2, f3, o, f4⟩ := rl.fr a ha
      exact ⟨f1, f2, f3, there a o f4⟩
    · exact SlAll.reTab hZ was stays nM kk tab2 rl.sl (fun _ h => h) ok.2
  refine ⟨M, s, _, rl1, by unfold xCall; rw [h1, Option.bind_some, h2, Option.map_some], ?_⟩
  cases r with
  | ok d => exact fun v H2 k2 r2 _ => hQ v w H2 h3 fun H3 g3 => k _ H3 (kq.trans (k2.trans (kq_grow g3))) (r2.grow g3) (.str w)
  | ex c =>
    refine fun C H2 hm k2 r2 => ?_
    have hc := in_ c w h3
    have e := hn c hc
    rw [hm] at e
    cases e
    exact hE c w H2 hc h3 fun H3 g3 => k _ H3 (kq.trans (k2.trans (kq_grow g3))) (r2.grow g3) (.str w)
end
end Dl

/-! ### which exception came: the rules, over trees -/
namespace Dl
open PySem PySem.Spec PyProof.Rows L2
/-- what the head knows of the exceptions that may come (nm), asked by isinstance for these (ts) -/
structure ExF (K : PySem.W.Frag) (mg : Str → Option Value) (nm ts : List Str) : Prop where
  cls : ∀ c ∈ nm, ExcC K (He.ga K c)
  kit : ∀ c ∈ nm, ∀ C ∈ ts, PySem.W.kitOne K (.ref (He.ga K c)) (.ref (He.ga K C)) = some (decide (c = C))
  val : ∀ c ∈ nm, PySem.W.kitOne K (.ref (He.ga K c)) (.type "ValueError") = some true
  top : ∀ c ∈ nm, PySem.W.exmOne K (.ref (He.ga K c)) (.ref (He.ga K "AskError")) = some true
  at_ : ∀ c ∈ ("AskError" : Str) :: (nm ++ ts), mg c = some (.ref (He.ga K c))
  mak : ∀ c ∈ nm, ExcK K mg c
def excCB (K : PySem.W.Frag) (D : Addr) : Bool :=
  decide (PySem.W.findIn K (.ref D) "__getattribute__" = some (some (.builtin "BaseException.__getattribute__"))) && (decide (PySem.W.findIn K (.ref D) "__getattr__" = some none) && (decide (PySem.W.subIn K (.ref D) (.type "BaseException") = some true) && (PySem.W.hasDictIn K D &&
  (decide (PySem.W.findIn K (.ref D) "__class__" = some (some (.builtin "object.__class__"))) && (decide (PySem.W.specialIn K (.builtin "object.__class__") "__get__" = some (some (.builtin "getset_descriptor.__get__"))) && (decide (PySem.W.takesIn K (.builtin "object.__class__") = some true) && decide (PySem.W.mroIn K D (.type "object") = some true)))))))
theorem excCB_ok {K : PySem.W.Frag} {D : Addr} (h : excCB K D = true) : ExcC K D := by
  unfold excCB at h
  simp only [Bool.and_eq_true, decide_eq_true_eq] at h
  obtain ⟨h1, h2, h3, h4, h5, h6, h7, h8⟩ := h
  exact ⟨h1, h2, h3, h4, h5, h6, h7, h8⟩
def exkB (K : PySem.W.Frag) (c : Str) : Bool := (He.Fa.exc c).ok K
def exfB (nm ts : List Str) (K : PySem.W.Frag) : Bool :=
  nm.all (fun c => excCB K (He.ga K c) && (ts.all (fun C => decide (PySem.W.kitOne K (.ref (He.ga K c)) (.ref (He.ga K C)) = some (decide (c = C)))) && (decide (PySem.W.kitOne K (.ref (He.ga K c)) (.type "ValueError") = some true) && (decide (PySem.W.exmOne K (.ref (He.ga K c)) (.ref (He.ga K "AskError")) = some true) && exkB K c)))) &&
  (("AskError" : Str) :: (nm ++ ts)).all fun c => (He.Fa.glo c).ok K
theorem exF_of {K : PySem.W.Frag} {h : Heap} {mg : Str → Option Value} {nm ts : List Str} (X : K.In h) (G : h.Ns mainGlobals mg) (e : exfB nm ts K = true) : ExF K mg nm ts := by
  unfold exfB at e
  rw [Bool.and_eq_true, List.all_eq_true, List.all_eq_true] at e
  obtain ⟨e1, e2⟩ := e
  have at_ : ∀ c ∈ ("AskError" : Str) :: (nm ++ ts), mg c = some (.ref (He.ga K c)) := fun c hc => He.glo_ok X G (e2 c hc)
  have part : ∀ c ∈ nm, ExcC K (He.ga K c) ∧ (∀ C ∈ ts, PySem.W.kitOne K (.ref (He.ga K c)) (.ref (He.ga K C)) = some (decide (c = C))) ∧ PySem.W.kitOne K (.ref (He.ga K c)) (.type "ValueError") = some true ∧ PySem.W.exmOne K (.ref (He.ga K c)) (.ref (He.ga K "AskError")) = some true ∧ exkB K c = true := fun c hc => by
    have q := e1 c hc
    simp only [Bool.and_eq_true, decide_eq_true_eq, List.all_eq_true] at q
    obtain ⟨q1, q2, q3, q4, q5⟩ := q
    exact ⟨excCB_ok q1, q2, q3, q4, q5⟩
  refine ⟨fun c hc => (part c hc).1, fun c hc => (part c hc).2.1, fun c hc => (part c hc).2.2.1, fun c hc => (part c hc).2.2.2.1, at_, fun c hc => ?_⟩
  obtain ⟨q1, q2, q3, q4⟩ := He.exc_ok (show (He.Fa.exc c).ok K = true from (part c hc).2.2.2.2)
  exact ⟨_, at_ c (List.mem_cons_of_mem _ (List.mem_append_left _ hc)), q1, q2, q3, q4⟩
/-- e is None -/
def isNoneD : PyData → Bool
  | .none => true
  | _ => false
def gIsN : PyData → PyData → Option PyData
  | d, .none => some (.bool (isNoneD d))
  | _, _ => none
def gNotN : PyData → PyData → Option PyData
  | d, .none => some (.bool (!isNoneD d))
  | _, _ => none
theorem isNone_dt {K : PySem.W.Frag} {mu : Addr → Prop} {H : Hp} {x : V} {d : PyData} (t : Dt K mu H x d) : decide (x = .non) = isNoneD d := by
  cases t <;> rfl
theorem ok_isN {K : PySem.W.Frag} : OpOk K (fun x y H Q => y = .non ∧ Q (.bl (decide (x = .non))) H) gIsN := fun mu H x y d1 d2 d Q hm t1 t2 e k => by
  unfold gIsN at e
  split at e
  · cases e
    exact ⟨t2.none_, by rw [isNone_dt t1]; exact k _ H (fun _ _ z => z) (.bl _)⟩
  · cases e
theorem ok_notN {K : PySem.W.Frag} : OpOk K (fun x y H Q => y = .non ∧ Q (.bl (!decide (x = .non))) H) gNotN := fun mu H x y d1 d2 d Q hm t1 t2 e k => by
  unfold gNotN at e
  split at e
  · cases e
    exact ⟨t2.none_, by rw [isNone_dt t1]; exact k _ H (fun _ _ z => z) (.bl _)⟩
  · cases e
/-- isinstance of an exception -/
def gIsE (nm : List Str) (C : Str) : PyData → Option PyData
  | .dict [(.none, .str c)] => if c ∈ nm then some (.bool (decide (c = C))) else none
  | _ => none
def gIsEs (nm : List Str) (Cs : List Str) : PyData → Option PyData
  | .dict [(.none, .str c)] => if c ∈ nm then some (.bool (Cs.any fun C => decide (c = C))) else none
  | _ => none
def gIsEV (nm : List Str) : PyData → Option PyData
  | .dict [(.none, .str c)] => if c ∈ nm then some (.bool true) else none
  | _ => none
theorem kv_real {K : PySem.W.Frag} {mu : Addr → Prop} {H : Hp} : ∀ {kvs : List (Key × V)} {ds : List (PyData × PyData)}, DtKv K mu H kvs ds → ∀ p ∈ ds, p.1 ≠ .none
  | _, _, .nil, _, hp => by cases hp
  | _, _, .cons (k := k) h t, p, hp => by
    rcases List.mem_cons.mp hp with e | q
    · rw [e]; exact kD_none k
    · exact kv_real t p q
theorem Dt.excAt {K : PySem.W.Frag} {mu : Addr → Prop} {H : Hp} {v : V} {c : Str} (t : Dt K mu H v (.dict [(.none, .str c)])) : ∃ a, v = .ref a ∧ H a = some (ExZ (He.ga K c) a) := by
  generalize e : PyData.dict [(.none, .str c)] = d at t
  cases t with
  | scr h u => cases e
  | exc h n => cases e; exact ⟨_, rfl, h⟩
  | @dct a kvs ds h n u =>
    injection e with e
    subst e
    exact absurd rfl (kv_real u _ List.mem_cons_self)
  | _ => cases e
/-- isinstance(e, c) of an exception that is read in H -/
def rIsX (K : PySem.W.Frag) : List V → Hp → VK → Prop := fun xs H Q => ∃ (a D : Addr) (c : V) (u : Value) (b : Bool), xs = [.ref a, c] ∧ H a = some (ExZ D a) ∧ ExcC K D ∧ ClsV c u ∧ PySem.W.kitOne K (.ref D) u = some b ∧ Q (.bl b) H
def rIsXs (K : PySem.W.Frag) : List V → Hp → VK → Prop := fun xs H Q => ∃ (a D tp : Addr) (cs : List V) (us : List Value) (b : Bool), xs = [.ref a, .ref tp] ∧ H a = some (ExZ D a) ∧ ExcC K D ∧ H tp = some (.tup cs) ∧ Paired ClsV cs us ∧ PySem.W.kitAny K (.ref D) us = some b ∧ Q (.bl b) H
section
variable {X : Cx}
theorem inst_of {pins : List (Addr × Obj)} {σ : L2.St} {H : Hp} {s : Shared} {a D : Addr} (I : Inv X pins σ H s) (h : H a = some (ExZ D a)) : ∃ oe, PySem.W.InstAt s.heap a oe D none := by
  obtain ⟨⟨oe, e, z, vs, d⟩, _, _⟩ := I.hok a _ h
  obtain ⟨oc, od, oda, osl⟩ := oe
  obtain ⟨z1, z2⟩ := z
  dsimp only at z1 z2 d
  subst z1 z2 d
  exact ⟨_, e, rfl, rfl, trivial⟩
theorem call_isX : CallR X (.builtin "isinstance") (rIsX X.K) := by
  intro pins s σ H xs us Q I r h
  obtain ⟨a, D, c, u, b, rfl, hD, C, k, e, q⟩ := h
  obtain ⟨u1, u2, rfl, r1, r2⟩ := vals2 r
  obtain rfl : u1 = .ref a := r1
  have e2 := k.eq r2
  subst e2
  obtain ⟨oe, J⟩ := inst_of I hD
  exact PySem.W.kia_one (PySem.W.handS_kitx_exc C.hg C.hk C.hs C.hd C.ha C.hn C.ht C.hm) I.kIn J e (fun z => nomatch z) fun tk => ⟨.bl b, H, I.tok tk, rfl, q⟩
theorem call_isXs : CallR X (.builtin "isinstance") (rIsXs X.K) := by
  intro pins s σ H xs us Q I r h
  obtain ⟨a, D, tp, cs, ws, b, rfl, hD, C, hT, k, e, q⟩ := h
  obtain ⟨u1, u2, rfl, r1, r2⟩ := vals2 r
  obtain rfl : u1 = .ref a := r1
  obtain rfl : u2 = .ref tp := r2
  obtain ⟨oe, J⟩ := inst_of I hD
  obtain ⟨_, its, rv, o, h1, h2, n, h3⟩ := (show ObjOk X.prog X.w H s.heap tp (.tup cs) from I.hok tp _ hT)
  have e3 := ClsV.all k rv
  subst e3
  obtain ⟨oc, od, dt, sl⟩ := o
  simp only at h2 h3
  subst h2 h3
  exact PySem.W.kia_tup (PySem.W.handS_kitx_exc C.hg C.hk C.hs C.hd C.ha C.hn C.ht C.hm) I.kIn J h1 e (fun z => nomatch z) fun tk => ⟨.bl b, H, I.tok tk, rfl, q⟩
end
section
variable {X : Cx} {Z : Par} {a b e : Expr} {es : List Expr} {pos : Pos} {fa fb : DE} {nm ts : List Str}
theorem disX {x C : Str} {p p2 : Pos} (Fx : ExF X.K X.mg nm ts) (hC : C ∈ ts) (hg : Gl X x) (hm : X.mg x = none) (hv : bootBuiltins x = some (.builtin "isinstance")) (hg2 : Gl X C) (ha : PE X e (lft X.K Z fa)) (hn : x ≠ "__name__" := by decide) (hdb : (x == ("__debug__" : Str)) = false := by decide) (hdb2 : (C == ("__debug__" : Str)) = false := by decide)
    (he : starEach [e, .Name C p2] X.env = (false, eval e X.env) :: starEach [.Name C p2] X.env := by rfl) (he2 : starEach [.Name C p2] X.env = (false, eval (.Name C p2) X.env) :: starEach [] X.env := by rfl) (hpl : (backTo pos (starEach [.Name C p2] X.env)).any (·.1) = false := by rfl) :
    PE X (.Call (.Name x p) [e, .Name C p2] [] pos) (lft X.K Z (dUn (gIsE nm C) fa)) := PEimp (pe_callB call_isX hg hm hv (pa_cons ha (pa_cons (pe_glob (v := .ref (He.ga X.K C)) hg2 (Fx.at_ C (List.mem_cons_of_mem _ (List.mem_append_right _ hC))) rfl hdb2) pa_nil he2) he) hn hdb he hpl) fun σ H Q h => by
  obtain ⟨M, s, d, s', rl, hf, k⟩ := h
  obtain ⟨d1, h1, h3⟩ := dUn_some hf
  refine ⟨M, s, d1, s', rl, h1, fun v H1 k1 r1 t1 => ?_⟩
  unfold gIsE at h3
  split at h3
  · split at h3
    · rename_i c hc
      cases h3
      obtain ⟨a, rfl, ha⟩ := t1.excAt
      exact ⟨a, _, .ref (He.ga X.K C), _, _, rfl, ha, Fx.cls c hc, .own _, Fx.kit c hc C hC, k _ H1 k1 r1 (.bl _)⟩
    · cases h3
  · cases h3
theorem disV {x C : Str} {p p2 : Pos} (Fx : ExF X.K X.mg nm ts) (hg : Gl X x) (hm : X.mg x = none) (hv : bootBuiltins x = some (.builtin "isinstance")) (hg2 : Gl X C) (hm2 : X.mg C = none) (hv2 : bootBuiltins C = some (.type "ValueError")) (ha : PE X e (lft X.K Z fa)) (hn : x ≠ "__name__" := by decide) (hn2 : C ≠ "__name__" := by decide) (hdb : (x == ("__debug__" : Str)) = false := by decide) (hdb2 : (C == ("__debug__" : Str)) = false := by decide)
    (he : starEach [e, .Name C p2] X.env = (false, eval e X.env) :: starEach [.Name C p2] X.env := by rfl) (he2 : starEach [.Name C p2] X.env = (false, eval (.Name C p2) X.env) :: starEach [] X.env := by rfl) (hpl : (backTo pos (starEach [.Name C p2] X.env)).any (·.1) = false := by rfl) :
    PE X (.Call (.Name x p) [e, .Name C p2] [] pos) (lft X.K Z (dUn (gIsEV nm) fa)) := PEimp (pe_callB call_isX hg hm hv (pa_cons ha (pa_cons (pe_bltn (v := .ty "ValueError") hg2 hm2 hv2 rfl hn2 hdb2) pa_nil he2) he) hn hdb he hpl) fun σ H Q h => by
  obtain ⟨M, s, d, s', rl, hf, k⟩ := h
  obtain ⟨d1, h1, h3⟩ := dUn_some hf
  refine ⟨M, s, d1, s', rl, h1, fun v H1 k1 r1 t1 => ?_⟩
  unfold gIsEV at h3
  split at h3
  · split at h3
    · rename_i c hc
      cases h3
      obtain ⟨a, rfl, ha⟩ := t1.excAt
      exact ⟨a, _, .ty "ValueError", _, _, rfl, ha, Fx.cls c hc, .ty _, Fx.val c hc, k _ H1 k1 r1 (.bl _)⟩
    · cases h3
  · cases h3
/-- the classes written in a tuple -/
structure ClsArgs (X : Cx) (es : List Expr) (Cs : List Str) : Prop where
  pa : PA X es (fun σ H Q => Q (Cs.map fun C => V.ref (He.ga X.K C)) H)
theorem clsNil : ClsArgs X [] [] := ⟨pa_nil⟩
theorem clsCons {C : Str} {Cs : List Str} {p2 : Pos} (hm : X.mg C = some (.ref (He.ga X.K C))) (hg2 : Gl X C) (r : ClsArgs X es Cs) (hdb2 : (C == ("__debug__" : Str)) = false := by decide) (hs : starEach (.Name C p2 :: es) X.env = (false, eval (.Name C p2) X.env) :: starEach es X.env := by rfl) : ClsArgs X (.Name C p2 :: es) (C :: Cs) :=
  ⟨PAimp (pa_cons (pe_glob (v := .ref (He.ga X.K C)) hg2 hm rfl hdb2) r.pa hs) fun _ _ _ h => h⟩
theorem kitAny_of {K : PySem.W.Frag} {t : Value} {c : Str} : ∀ {Cs : List Str}, (∀ C ∈ Cs, PySem.W.kitOne K t (.ref (He.ga K C)) = some (decide (c = C))) → PySem.W.kitAny K t (Cs.map fun C => .ref (He.ga K C)) = some (Cs.any fun C => decide (c = C))
  | [], _ => rfl
  | C :: r, h => by
    have e := h C List.mem_cons_self
    have ih := kitAny_of (Cs := r) fun D hD => h D (List.mem_cons_of_mem _ hD)
    rw [List.map_cons, List.any_cons]
    unfold PySem.W.kitAny
    rw [e]
    by_cases q : c = C
    · simp [q]
    · simp only [q, decide_false, Bool.false_or]
      exact ih
theorem clsPaired {K : PySem.W.Frag} : ∀ Cs : List Str, Paired ClsV (Cs.map fun C => V.ref (He.ga K C)) (Cs.map fun C => Value.ref (He.ga K C))
  | [] => .nil
  | C :: r => .cons (.own _) (clsPaired r)
theorem disXs {x : Str} {Cs : List Str} {p p2 : Pos} {x1} (Fx : ExF X.K X.mg nm ts) (hC : ∀ C ∈ Cs, C ∈ ts) (few : Cs.length ≤ 1000) (hg : Gl X x) (hm : X.mg x = none) (hv : bootBuiltins x = some (.builtin "isinstance")) (hcs : ClsArgs X es Cs) (ha : PE X e (lft X.K Z fa)) (hn : x ≠ "__name__" := by decide) (hdb : (x == ("__debug__" : Str)) = false := by decide)
    (he : starEach [e, .Tuple es x1 p2] X.env = (false, eval e X.env) :: starEach [.Tuple es x1 p2] X.env := by rfl) (he2 : starEach [.Tuple es x1 p2] X.env = (false, eval (.Tuple es x1 p2) X.env) :: starEach [] X.env := by rfl) (hpl : (backTo pos (starEach [.Tuple es x1 p2] X.env)).any (·.1) = false := by rfl) :
    PE X (.Call (.Name x p) [e, .Tuple es x1 p2] [] pos) (lft X.K Z (dUn (gIsEs nm Cs) fa)) := PEimp (pe_callB call_isXs hg hm hv (pa_cons ha (pa_cons (pe_tup hcs.pa) pa_nil he2) he) hn hdb he hpl) fun σ H Q h => by
  obtain ⟨M, s, d, s', rl, hf, k⟩ := h
  obtain ⟨d1, h1, h3⟩ := dUn_some hf
  refine ⟨M, s, d1, s', rl, h1, fun v H1 k1 r1 t1 => ⟨by rw [List.length_map]; exact Nat.le_trans few (by decide), fun tp new => ?_⟩⟩
  unfold gIsEs at h3
  split at h3
  · split at h3
    · rename_i c hc
      cases h3
      obtain ⟨a, rfl, ha⟩ := t1.excAt
      refine ⟨a, _, tp, _, _, _, rfl, grow_new new _ _ ha, Fx.cls c hc, upd_same, clsPaired Cs, kitAny_of fun C hC' => Fx.kit c hc C (hC C hC'), ?_⟩
      exact k _ _ (k1.trans (kq_grow (grow_new new))) (r1.grow (grow_new new)) (.bl _)
    · cases h3
  · cases h3
end
/-! #### list.count, list.index of texts, numbers, truths -/
def gCount : PyData → PyData → Option PyData
  | .list ds, d => if ds.all scalD = true ∧ scalD d = true then some (.int (ds.countP fun z => PyData.eqv z d : Nat)) else none
  | _, _ => none
def gIndex : PyData → PyData → Option PyData
  | .list ds, d => if ds.all scalD = true ∧ scalD d = true then (ds.findIdx? fun z => PyData.eqv z d).map fun j => .int (j : Nat) else none
  | _, _ => none
def rCountF (K : PySem.W.Frag) : V → List V → Hp → VK → Prop := fun x xs H Q => ∃ (a : Addr) (ys : List V) (y : V), x = V.ref a ∧ xs = [y] ∧ SqL K H a ys ∧ flatV y = true ∧ ys.all flatV = true ∧ Q (.int (ys.countP fun z => eqV z y : Nat)) H
theorem countP_eqU {x : V} : ∀ {xs : List V} {us : List Value}, Vals xs us → xs.all flatV = true → us.countP (eqU x) = xs.countP fun z => eqV z x
  | _, _, .nil, _ => rfl
  | y :: xs, u :: us, .cons r t, f => by
    rw [List.all_cons, Bool.and_eq_true] at f
    rw [List.countP_cons, List.countP_cons, eqU_of r f.1, countP_eqU t f.2]
theorem mt_countF {X : Cx} : MtR X "list.count" (rCountF X.K) := by
  intro pins s σ H x xs v us Q I rx rxs h
  obtain ⟨a, ys, y, rfl, rfl, hs, fy, fys, q⟩ := h
  cases rx
  obtain ⟨u, rfl, ru⟩ := rxs.one
  obtain ⟨its, rv, ⟨⟨cls, dd, data, sl⟩, n, ho, hc, hdn, hd⟩, hlen⟩ := I.list hs
  simp only at hc hd
  subst hc hd
  refine call_meets PySem.F.slot_list_count ⟨_, ho, rfl⟩ PySem.F.entry_list_count (PySem.F.args_list_count_2 _ _)
    (SeqAt.list_countAt a its.toArray n dd sl u (eqU y)) ⟨ho, fun u' hu' => mem_eqAt ru fy rv fys u' (by simpa using hu'), ?_⟩
  have ec : its.toArray.toList.countP (eqU y) = ys.countP fun z => eqV z y := countP_eqU rv fys
  refine ⟨.int (ys.countP fun z => eqV z y : Nat), H, I.tok _, ⟨s.toks, ?_⟩, q⟩
  rw [ec]
theorem countP_dt {K : PySem.W.Frag} {mu : Addr → Prop} {H : Hp} {y : V} {d : PyData} (t : Dt K mu H y d) (hd : scalD d = true) : ∀ {vs : List V} {ds : List PyData}, DtAll K mu H vs ds → ds.all scalD = true → (vs.countP fun z => eqV z y) = ds.countP fun z => PyData.eqv z d
  | _, _, .nil, _ => rfl
  | _, _, .cons u r, f => by
    rw [List.all_cons, Bool.and_eq_true] at f
    rw [List.countP_cons, List.countP_cons, scal_eq u t f.1 hd, countP_dt t hd r f.2]
section
variable {X : Cx} {Z : Par} {o e : Expr} {fo fe : DE} {name : Str} {apos cpos : Pos}
/-- o.m(e), o a list -/
theorem dmL {id : String} {r : V → List V → Hp → VK → Prop} {g : PyData → PyData → Option PyData} (slot : Slot "list" name id) (hty : typeOf (.builtin id) = pure (.type "method_descriptor")) (hm : MtR X id r) (isL : ∀ d1 d2 d, g d1 d2 = some d → ∃ ds, d1 = .list ds)
    (ok : ∀ (mu : Addr → Prop) (H : Hp) (x y : V) (d1 d2 d : PyData) (Q : VK), Dt X.K mu H x d1 → Dt X.K mu H y d2 → g d1 d2 = some d → (∀ v, Dt X.K mu H v d → Q v H) → r x [y] H Q) (ho : PE X o (lft X.K Z fo)) (ha : PE X e (lft X.K Z fe))
    (hbase : attributeBase o name X.env (eval o X.env) = eval o X.env := by rfl)
    (hfew : ((backTo cpos (starEach [e] X.env)).all (fun x => !x.1) && (backToKw cpos (keywordEach [] X.env)).all (fun x => x.1.isSome)
      && decide ([e].length + ([] : List Keyword).length + (if ([] : List Keyword).isEmpty then 0 else 1) < 30)) = true := by rfl)
    (hline : (apos.endLine == cpos.line) = true := by rfl) (hs : starEach [e] X.env = (false, eval e X.env) :: starEach [] X.env := by rfl) (hplain : (backTo cpos (starEach [] X.env)).any (·.1) = false := by rfl) :
    PE X (.Call (.Attribute o name apos) [e] [] cpos) (lft X.K Z (dOp g fo fe)) := PEimp (pe_bm PySem.F.plainAttrs_list slot hty hm ho (pa_cons ha pa_nil hs) hbase hfew hline hs hplain) fun σ H Q h => by
  obtain ⟨M, s, d, s', rl, hf, k⟩ := h
  obtain ⟨d1, s1, d2, h1, h2, h3⟩ := dOp_some hf
  obtain ⟨ds, rfl⟩ := isL _ _ _ h3
  refine ⟨M, s, _, s1, rl, h1, fun x H1 k1 r1 t1 => ?_⟩
  obtain ⟨a, xs, rfl, q1, q2⟩ := t1.list
  refine ⟨.inl ⟨rfl, xs, q1⟩, M, s1, d2, s', r1, h2, fun y H2 k2 r2 t2 => ?_⟩
  exact ok (Mu Z M) H2 (.ref a) y _ d2 d Q (t1.mono k2.kp) t2 h3 fun v t3 => k v H2 (k1.trans k2) r2 t3
theorem dcount (ho : PE X o (lft X.K Z fo)) (ha : PE X e (lft X.K Z fe)) (hbase : attributeBase o "count" X.env (eval o X.env) = eval o X.env := by rfl)
    (hfew : ((backTo cpos (starEach [e] X.env)).all (fun x => !x.1) && (backToKw cpos (keywordEach [] X.env)).all (fun x => x.1.isSome)
      && decide ([e].length + ([] : List Keyword).length + (if ([] : List Keyword).isEmpty then 0 else 1) < 30)) = true := by rfl)
    (hline : (apos.endLine == cpos.line) = true := by rfl) (hs : starEach [e] X.env = (false, eval e X.env) :: starEach [] X.env := by rfl) (hplain : (backTo cpos (starEach [] X.env)).any (·.1) = false := by rfl) :
    PE X (.Call (.Attribute o "count" apos) [e] [] cpos) (lft X.K Z (dOp gCount fo fe)) :=
  dmL PySem.F.slot_list_count PySem.F.type_list_count mt_countF (fun d1 d2 d h => by unfold gCount at h; split at h; exact ⟨_, rfl⟩; cases h) (fun mu H x y d1 d2 d Q t1 t2 h k => by
    unfold gCount at h
    split at h
    · split at h
      · rename_i c
        cases h
        obtain ⟨a, xs, rfl, q1, q2⟩ := t1.list
        refine ⟨a, xs, y, rfl, rfl, q1, scal_v t2 c.2, scal_vs q2 c.1, ?_⟩
        rw [countP_dt t2 c.2 q2 c.1]
        exact k _ (.int _)
      · cases h
    · cases h) ho ha hbase hfew hline hs hplain
theorem eqv_get {K : PySem.W.Frag} {mu : Addr → Prop} {H : Hp} {vs : List V} {ds : List PyData} (t : DtAll K mu H vs ds) (f : ds.all scalD = true) {m : Nat} {z : V} (h : vs[m]? = some z) : ∃ d, ds[m]? = some d ∧ Dt K mu H z d ∧ scalD d = true := by
  obtain ⟨d, e, u⟩ := t.getv h
  exact ⟨d, e, u, List.all_eq_true.mp f d (List.mem_of_getElem? e)⟩
theorem gIndex_some {d1 d2 d : PyData} (h : gIndex d1 d2 = some d) : ∃ (ds : List PyData) (j : Nat), d1 = .list ds ∧ ds.all scalD = true ∧ scalD d2 = true ∧ (ds.findIdx? fun z => PyData.eqv z d2) = some j ∧ d = .int (j : Nat) := by
  cases d1 with
  | list ds =>
    unfold gIndex at h
    dsimp only at h
    split at h
    · rename_i c
      simp only [Option.map_eq_some_iff] at h
      obtain ⟨j, h1, h2⟩ := h
      exact ⟨ds, j, rfl, c.1, c.2, h1, h2.symm⟩
    · cases h
  | _ => cases h
theorem dindex (ho : PE X o (lft X.K Z fo)) (ha : PE X e (lft X.K Z fe)) (hbase : attributeBase o "index" X.env (eval o X.env) = eval o X.env := by rfl)
    (hfew : ((backTo cpos (starEach [e] X.env)).all (fun x => !x.1) && (backToKw cpos (keywordEach [] X.env)).all (fun x => x.1.isSome)
      && decide ([e].length + ([] : List Keyword).length + (if ([] : List Keyword).isEmpty then 0 else 1) < 30)) = true := by rfl)
    (hline : (apos.endLine == cpos.line) = true := by rfl) (hs : starEach [e] X.env = (false, eval e X.env) :: starEach [] X.env := by rfl) (hplain : (backTo cpos (starEach [] X.env)).any (·.1) = false := by rfl) :
    PE X (.Call (.Attribute o "index" apos) [e] [] cpos) (lft X.K Z (dOp gIndex fo fe)) :=
  dmL PySem.F.slot_list_index PySem.F.type_list_index mt_index (fun d1 d2 d h => by unfold gIndex at h; split at h; exact ⟨_, rfl⟩; cases h) (fun mu H x y d1 d2 d Q t1 t2 h k => by
    obtain ⟨ds, j, rfl, c1, c2, h1, rfl⟩ := gIndex_some h
    obtain ⟨a, xs, rfl, q1, q2⟩ := t1.list
    have c : ds.all scalD = true ∧ scalD d2 = true := ⟨c1, c2⟩
    rw [List.findIdx?_eq_some_iff_getElem] at h1
    obtain ⟨hj, e1, e2⟩ := h1
    obtain ⟨z, g1, g2⟩ := q2.get (List.getElem?_eq_getElem hj)
    have sc : scalD ds[j] = true := List.all_eq_true.mp c.1 _ (List.getElem_mem hj)
    refine ⟨a, xs, y, j, z, rfl, rfl, q1, scal_v t2 c.2, scal_vs q2 c.1, g1, ?_, fun m z' hm hz => ?_, k _ (.int _)⟩
    · rw [scal_eq g2 t2 sc c.2]; exact e1
    · obtain ⟨d', f1, f2, f3⟩ := eqv_get q2 c.1 hz
      rw [scal_eq f2 t2 f3 c.2]
      obtain ⟨hm', rfl⟩ := List.getElem?_eq_some_iff.mp f1
      exact Bool.eq_false_iff.mpr (e2 m hm)) ho ha hbase hfew hline hs hplain
end
end Dl

/-! ### the def that tells which exception came; the law's end with a table of code objects -/
namespace Dl
open PySem PySem.Spec PyProof.Rows L2
theorem slAll_rest {K : PySem.W.Frag} {mu : Addr → Prop} {q : List Addr} {H : Hp} : ∀ {σ : L2.St} {n : Nat}, σ.length = n → SlAll K mu q H σ (List.replicate n .no) []
  | [], 0, _ => .nil
  | x :: σ, n + 1, e => .no (slAll_rest (by simpa using e))
def caught : Option Str → PyData
  | none => .none
  | some c => excD c
/-- a body behind the try: its meaning at the slot of what was caught -/
def wordAt (n : Nat) (b : DS) (oc : Option Str) : Option Str := match b (.no :: .dat (caught oc) :: List.replicate n .no) with
  | some (.rt (.str w) _) => some w
  | _ => none
def wordOf (nm : List Str) (n : Nat) (b : DS) (oc : Option Str) : Option Str := match oc with
  | none => wordAt n b none
  | some c => if c ∈ nm then wordAt n b (some c) else none
theorem wordAt_some {n : Nat} {b : DS} {oc : Option Str} {w : Str} (h : wordAt n b oc = some w) : ∃ s', b (.no :: .dat (caught oc) :: List.replicate n .no) = some (.rt (.str w) s') := by
  unfold wordAt at h
  split at h
  · rename_i w' s' e
    cases h
    exact ⟨s', e⟩
  · cases h
theorem word_ready {K : PySem.W.Frag} {n : Nat} {b : DS} {oc : Option Str} {w : Str} (h : wordAt n b oc = some w) {σ : L2.St} {x v : Option V} {y : V} {H : Hp} {Q : VK} (len : σ.length = n) (t : ∀ mu : Addr → Prop, (∀ a, ¬ mu a) → Dt K mu H y (caught oc))
    (q : ∀ H'', (∀ a o, H a = some o → H'' a = some o) → Q (.str w) H'') (E : L2.St → Hp → Prop) : ∃ Z, lfS K Z b { nx := E, rt := Q } (x :: some y :: σ) H := by
  obtain ⟨s', e⟩ := wordAt_some h
  refine ⟨⟨H, [], fun _ => False, .nil⟩, [], _, _, ⟨fun a o z _ => z, fun _ z => (by cases z), fun _ z => z.elim, fun _ z => (by cases z), .no (.dat (t _ fun a z => ?_) (slAll_rest len))⟩, e, fun M σ' H' u k r tu => ?_⟩
  · rcases z with z | z | z
    · exact z
    · cases z
    · cases z
  · rw [tu.text]
    exact q H' fun a o z => r.base a o z fun w => by cases w
section
variable {X : Cx}
theorem word_gives {Ng more : List Str} {x a y n z q : Str} {sg : Scope} {g : Addr} {cdg : Value} {bg rest : List Stmt} {nm ts : List Str} {b : DS} {j : Nat} {py py2 p0 pa pa2 p1 p2 p3 np pn pos pos' : Pos}
    (hN : Ng = a :: y :: n :: more) (nd : Ng.Nodup) (Fx : ExF X.K X.mg nm ts) (hz : z = "AskError")
    (hbg : bg = .Assign [.Name y py] (.Constant .none j p0) pa :: .Try [.Expr (.Call (.Name a p1) [] [] p2) p3] [.ExceptHandler (some (.Name z np)) (some n) [.Assign [.Name y py2] (.Name n pn) pa2] pos'] [] [] pos :: rest)
    (ly : sg.names.lookup y = some .local) (ln : sg.names.lookup n = some .local) (la : Vis sg a) (gz : sg.names.lookup z = some .globalImplicit)
    (sw1 : ∀ (C : Cx), C.env.scope = sg → C.N = Ng → swapsWith (.Constant .none j p0) (some (.Name y py)) pa.line C.env = pure false) (sw2 : ∀ (C : Cx), C.env.scope = sg → swapsWith (.Name n pn) (some (.Name y py2)) pa2.line C.env = pure false) (sw3 : ∀ (C : Cx), C.env.scope = sg → swapsWith (.Call (.Name a p1) [] [] p2) none p3.line C.env = pure false)
    (dn1 : (n == ("__debug__" : Str)) = false) (dn2 : (n == ("__classdict__" : Str)) = false)
    (hrest : ∀ (f : Addr) (s : Shared) (H : Hp) (Z : Par), PSs (cxOf C8.CX0 X.prog X.w X.K X.mg X.base Ng x sg g cdg X.A X.stack s H C8.E0).nox rest (lfS X.K Z b)) :
    LamX.GivesTo X Ng x sg g cdg bg a q (TTw X.K nm (wordOf nm (more.length + 1) b)) := by
  intro f c' s H Q tl act hc h
  subst hbg hN hz
  have gl : Gl (cxOf C8.CX0 X.prog X.w X.K X.mg X.base (a :: y :: n :: more) x sg g cdg X.A X.stack s H C8.E0).nox "AskError" := gz
  refine ⟨_, pss_cons (ps_set (i := 1) nd rfl (.inl ly) pe_non (sw1 _ rfl rfl) (.inr ly)) (pss_cons (ps_try_keep (X := (cxOf C8.CX0 X.prog X.w X.K X.mg X.base (a :: y :: n :: more) x sg g cdg X.A X.stack s H C8.E0).nox) (i := 2) (j := 1) (c := .ref (He.ga X.K "AskError"))
      (tb := fun W D σ H => ∃ Ech : XK, (∀ cls d σ' H', Ech cls d H' → W cls d σ' H') ∧ σ[0]? = some (some (.ref f)) ∧ H c' = some (LamX.CodeO c' q) ∧ tl Ech H (fun _ H' => D.nx σ H'))
      rfl rfl rfl nd rfl (by exact ln) rfl (.inl ly) ⟨gl, by decide, .inl (Fx.at_ _ List.mem_cons_self)⟩ (fun W pl xe tk _ => ?_) (fun ae oe pl => pss_one (PSimp (ps_set (i := 1) nd rfl (.inl ly) (pe_var (i := 2) rfl (.inl ln) ?_ ?_) (sw2 _ rfl) (.inr ly)) fun D σ H h => ?_)) ?_)
      (u := fun D σ H => ∃ Z, lfS X.K Z b D σ H) ⟨fun pins s' σ H' D I ⟨Z, r⟩ => (hrest f s H Z).run pins s' σ H' D I r⟩), ?_⟩
  · refine pss_one ⟨fun pins s' σ H' D I h' => ?_⟩
    obtain ⟨Ech, hW, h1, h2, h3⟩ := h'
    exact (ps_expr (pos := p3) (act W pl xe Ech p1 p2 tk hW) (sw3 _ rfl)).run pins s' σ H' D I ⟨h1, h2, h3⟩
  · exact dn1
  · exact dn2
  · exact h
  · show 2 < (a :: y :: n :: more).length
    simp
  · refine ⟨fun cls d H' => ∃ c w, c ∈ nm ∧ cls = .ref (He.ga X.K c) ∧ d = none ∧ wordOf nm (more.length + 1) b (some c) = some w ∧ ∀ H'', (∀ a o, H' a = some o → H'' a = some o) → Q (.str w) H'', fun cls d σ' H' hE => ?_, rfl, hc, h _ _ (fun c w H' hc hw hq => ⟨c, w, hc, rfl, rfl, hw, hq⟩) (fun v w H' hw hq => ?_)⟩
    · obtain ⟨c, w, hcn, rfl, rfl, hw, hq⟩ := hE
      refine ⟨_, rfl, rfl, Fx.top c hcn, fun len ae na => ?_⟩
      have len : σ'.length = (a :: y :: n :: more).length := len
      match σ', len with
      | o0 :: o1 :: o2 :: r, len =>
        have len' : r.length = more.length := by simpa using len
        have hw' : wordAt (more.length + 1) b (some c) = some w := by
          have h2 : (if c ∈ nm then wordAt (more.length + 1) b (some c) else none) = some w := hw
          rw [if_pos hcn] at h2
          exact h2
        exact word_ready (v := none) (x := o0) (y := .ref ae) (σ := none :: r) hw' (by rw [List.length_cons, len']) (fun mu n => .exc upd_same (n ae)) (fun H'' g => hq H'' fun b o e => g b o (grow_new na b o e)) _
    · exact word_ready (v := none) (x := some (.ref f)) (y := .non) (σ := none :: List.replicate more.length none) hw (by simp) (fun mu n => .non) hq _
end
/-- x(lambda: f(..)), x the def that tells which exception came -/
theorem dword {X : Cx} {Z : Par} {ga : DA} {x a q : Str} {st : Stmt} {Ng : List Str} {nm : List Str} {wd : Option Str → Option Str} {m : List PyData → Option (Rx PyData)} {c P : Addr} {j k : Nat} {ps0 : Arguments} {body : Expr} {scope : Scope} {p lpos pos : Pos}
    (F : Std X.K X.mg x st [a]) (Sg : FnScope Ng [a] (defScope st)) (hNg : Ng[0]? = some a) (hva : Vis (defScope st) a) (hG : ∀ (g : Addr) (cdv : Value), LamX.GivesTo X Ng x (defScope st) g cdv (defBody st) a (X.env.qual ++ "<lambda>") (TTw X.K nm wd))
    (TB : LamX.TabB X.base X.mg c P) (hcode : X.env.code = .ref c) (hZ : Z.p[j]? = some P) (hq : q = X.env.qual ++ "<lambda>") (hr : Room (k + 2) X.A) (hn : Nmd X.K X.mg nm) (in_ : ∀ c w, wd (some c) = some w → c ∈ nm) (hg : Gl X x)
    (L : LamX.LamS X.env.scope scope) (hbody : ∀ (A : Around) (outer : List Env) (s : Shared) (H : Hp) (E : XK) (f c' : Addr), Room k (A.deeper (LamX.lamEnv X scope s.heap.objs.size f c')) → PE (LamX.lamCx X A outer s H E scope f c') body (lftx X.K X.mg Z (fun cls d _ H => E cls d H) (xCall m ga)))
    (hdef : defaultsOf ps0 X.env = ([], []) := by rfl) (hbind : ∀ (q : Str) (cl : List (Str × Addr)) (pm cv ctv : Value), bindArgs (PySem.W.kla_fn "<lambda>" q ps0 body scope cl pm cv ctv) ⟨[], []⟩ = pure [] := by intro _ _ _ _ _; rfl)
    (hdb : (x == ("__debug__" : Str)) = false := by decide) (hd : (a == ("__debug__" : Str)) = false := by decide) (hcd : (a == ("__classdict__" : Str)) = false := by decide) :
    PE X (.Call (.Name x p) [.Lambda ps0 body scope lpos] [] pos) (lft X.K Z (dWord j q wd m ga)) := by
  obtain ⟨g, fd, F, hm, hb⟩ := F
  obtain ⟨⟨oc, od, kV, doc, pm, an, cdv, ct, osl, e1, lk, hcd2⟩, kp⟩ := F
  subst e1 hq
  exact PEimp (pe_word hg hm kp lk hcd2 hb Sg hNg hva (hG g cdv) TB hcode hr L hdef hbind hbody hdb hd hcd) fun _ _ _ h => lift_word hZ hn in_ h
/-! #### the law's end -/
def startT (N : List Str) (q : Str) (ds : List PyData) : Sl := ds.map SV.dat ++ (List.replicate (N.length - 1 - ds.length) .no ++ [.tab 0 q])
def fnT (N : List Str) (q : Str) (n : Nat) (b : DS) : List PyData → Option PyData := fun ds => if ds.length = n then outP (b (startT N q ds)) else none
section
variable {P : Program} {w : World} {K : PySem.W.Frag} {mg mb : Str → Option Value}
theorem slAll_tab {mu : Addr → Prop} {q : Str} {H : Hp} {T : Addr} (h : H T = some (.tbl #[])) : ∀ n : Nat, SlAll K mu [T] H (List.replicate (n + 1) none) (List.replicate n .no ++ [.tab 0 q]) []
  | 0 => .tab rfl h trivial (fun pos cv z => by
      have z' : codeAmong pos [] = some cv := z
      simp [codeAmong] at z') .nil
  | n + 1 => .no (slAll_tab h n)
theorem law_hereT {x p q : Str} {st : Stmt} {fa a c T : Addr} {fd : FuncData} {N : List Str} {k : Nat} {b : DS} {s₁ : Shared} {vs : List Value} {ns : List Int}
    (KX : K.In s₁.heap) (hns : s₁.heap.Ns mainGlobals mg) (hbl : s₁.heap.Ns builtinsNs mb) (hbb : ∀ y : Str, y ≠ "__name__" → mb y = bootBuiltins y) (hlim : s₁.heap.NoLimit) (hmo : ∃ mm, s₁.heap.Ns sysModules mm) (hg : s₁.gens = #[])
    (ha : s₁.heap.get? a = some { cls := .type "list", data := .seq vs.toArray }) (hi : IntsAre vs ns) (few : ns.length ≤ sizeLine) (room : Room (k + 1) callerA) (F : Fun K x x st fa fd) (S : FnScope N [p] (defScope st)) (bt : ∀ (s : Shared) (u : Value), BindsTo s fd ⟨[u], []⟩ [(p, u)])
    (hT : s₁.heap.get? T = some { cls := .none, data := .fields #[] }) (nT : K.lookup T = none) (C : PySem.W.CodeHd s₁.heap c T) (hcd : fd.code = .ref c)
    (hbm : ∃ (bm : Addr) (ob : Obj), mg "__builtins__" = some (.ref bm) ∧ bm ≠ builtinsNs ∧ s₁.heap.get? bm = some ob ∧ ob.cls = .type "module" ∧ ob.dict = some builtinsNs ∧ ob.data = .plain) (len2 : 2 ≤ N.length)
    (body : ∀ (base : Heap) (s : Shared) (H : Hp) (Z : Par), Mod K mg base → Room k (callerA.deeper (envOfC x (defScope st) s.heap.objs.size fa (.ref c))) → CG (cxOf CX0 P w K mg base N x (defScope st) fa (.ref c) callerA [] s H E0).nox → LamX.TabB base mg c T → Z.p[0]? = some T →
      PSs (cxOf CX0 P w K mg base N x (defScope st) fa (.ref c) callerA [] s H E0).nox (defBody st) (lfS K Z b))
    (true_ : fnT N q 1 b [.dict [(.none, .list (ns.map .int))]] = some (.bool true)) :
    codeAny (model P w) callerA (.call (.ref fa) ⟨[.ref a], []⟩) (fun r s' => r = .ok (.ret (.bool true)) ∧ OldK s₁.heap s'.heap ∧ s'.os = s₁.os ∧ AllBare s'.gens) s₁ := by
  obtain ⟨G, gok, hG, here⟩ := script_in (P := P) (w := w) KX ha hi few
  have aT : T ≠ a := fun e => by
    rw [e, ha] at hT
    cases hT
  have gT : G T = none := by
    cases z : G T with
    | none => rfl
    | some u => exact absurd (hG T u z).1 aT
  let H : Hp := upd G T (.tbl #[])
  have atT : H T = some (.tbl #[]) := upd_same
  have elseT : ∀ b, b ≠ T → H b = G b := fun b h => upd_ne h
  have fromG : ∀ b u, G b = some u → H b = some u := grow_new gT
  have hH : ∀ b u, H b = some u → b = T ∧ u = .tbl #[] ∨ (b = a ∧ K.lookup a = none ∧ ∃ o u', u = .frz o u') := fun b u z => by
    by_cases e : b = T
    · subst e
      rw [atT] at z
      cases z
      exact .inl ⟨rfl, rfl⟩
    · rw [elseT b e] at z
      obtain ⟨rfl, h2⟩ := hG b u z
      exact .inr ⟨rfl, h2⟩
  have hok : HOk P w H s₁.heap := fun b u z => by
    rcases hH b u z with ⟨rfl, rfl⟩ | ⟨rfl, _, o, u', rfl⟩
    · exact hT
    · rw [elseT b (fun e => aT e.symm)] at z
      exact (gok b _ z).stay (fun _ _ _ r => r) (fun c r => fromG _ _ r) fun c xs r => fromG _ _ r
  have free_of : ∀ {b : Addr} {o : Obj}, s₁.heap.get? b = some o → (∀ vs n, o.data ≠ .seq vs n) → o.data ≠ .fields #[] → H b = none := fun {b o} e h1 h2 => by
    cases z : H b with
    | none => rfl
    | some u =>
      rcases hH b u z with ⟨rfl, _⟩ | ⟨rfl, _⟩
      · rw [hT] at e
        cases e
        exact absurd rfl h2
      · rw [ha] at e
        cases e
        exact absurd rfl (h1 _ _)
  have dict_free : ∀ {b : Addr} {o : Obj} {es : Array DictEntry} {n : Nat}, s₁.heap.get? b = some o → o.data = .dict es n → H b = none := fun {b o es n} e d => free_of e (fun _ _ z => by rw [d] at z; cases z) (fun z => by rw [d] at z; cases z)
  have ns_in : ∀ {b : Addr} {m : Str → Option Value}, s₁.heap.Ns b m → (hidT s₁.heap H).Ns b m := fun ⟨o, es, n, e, d, r⟩ => ⟨o, es, n, hidT_get e (dict_free e d), d, r⟩
  have mod : Mod K mg (hidT s₁.heap H) := {
    kin := fun b o e => hidT_get (KX b o e) (by
      cases z : H b with
      | none => rfl
      | some u =>
        rcases hH b u z with ⟨rfl, _⟩ | ⟨rfl, q, _⟩
        · rw [nT] at e; cases e
        · rw [q] at e; cases e)
    glob := ns_in hns
    blt := ⟨mb, ns_in hbl, hbb⟩
    nolimit := let ⟨mc, q1, q2⟩ := hlim; ⟨mc, ns_in q1, q2⟩ }
  have TB : LamX.TabB (hidT s₁.heap H) mg c T := by
    refine ⟨?_, ?_, fun z => ?_⟩
    · obtain ⟨o, us, file, tf, flags, tg, inF, text, tt, e1, r1, r2, r3, r4, r5, r6, r7, r8, hne⟩ := C
      refine ⟨o, us, file, tf, flags, tg, inF, text, tt, hidT_get e1 (free_of e1 (fun vs n z => ?_) fun z => ?_), r1, r2, r3, r4, r5, r6, r7, r8, hne⟩
      · rw [r2] at z; cases z
      · rw [r2] at z
        cases z
        simp at r3
    · obtain ⟨bm, ob, b1, b2, b3, b4, b5, b6⟩ := hbm
      refine ⟨bm, ob, b1, b2, fun e => ?_, fun e => ?_, hidT_get b3 (free_of b3 (fun vs n z => ?_) fun z => ?_), b4, b5, b6⟩
      · obtain ⟨o, es, n, e3, d, _⟩ := hns
        rw [e, e3] at b3
        cases b3
        rw [d] at b6
        cases b6
      · rw [e, hT] at b3
        cases b3
        cases b6
      · rw [b6] at z; cases z
      · rw [b6] at z; cases z
    · obtain ⟨o, es, n, e, d, _⟩ := hns
      rw [z, hT] at e
      cases e
      cases d
  have e0 : Env0 P w K mg (hidT s₁.heap H) callerA [] s₁ H := ⟨rfl, mod, fun _ _ e => of_hidT e, by rw [hidT_size]; exact Nat.le_refl _, trivial, fun c hc => (by cases hc), hok, .of_eq hg⟩
  have sys : ∃ o es n, (hidT s₁.heap H).get? sysModules = some o ∧ o.data = .dict es n := by
    obtain ⟨mm, o, es, n, e, d, _⟩ := hmo
    exact ⟨o, es, n, hidT_get e (dict_free e d), d⟩
  let Z : Par := ⟨H, [T], fun _ => False, by simp⟩
  have only : ∀ b, Mu Z [] b → b = T := fun b z => by
    rcases z with z | z | z
    · exact z.elim
    · exact ((List.mem_singleton.mp z).symm).symm
    · cases z
  have td : Dt K (Mu Z []) H (.ref a) (.dict [(.none, .list (ns.map .int))]) := .scr (here.imp (fun z => ⟨z.imp (fun z => fromG _ _ z) fun ⟨o, z⟩ => ⟨o, fromG _ _ z⟩, fun z => aT (only a z).symm⟩) id) (dtAll_ints ns)
  have rel : Rel K Z [] (L2.start N [.ref a]) H (startT N q [.dict [(.none, .list (ns.map .int))]]) := by
    refine ⟨fun _ _ e _ => e, fun _ z => (by cases z), fun _ z => z.elim, fun b z => ⟨_, ((List.mem_singleton.mp z).symm) ▸ atT⟩, ?_⟩
    obtain ⟨n, hn⟩ : ∃ n, N.length = n + 2 := ⟨N.length - 2, by omega⟩
    have e1 : L2.start N [.ref a] = some (.ref a) :: List.replicate (n + 1) none := by
      unfold L2.start
      rw [List.length_singleton, hn]
      rfl
    have e2 : startT N q [.dict [(.none, .list (ns.map .int))]] = .dat (.dict [(.none, .list (ns.map .int))]) :: (List.replicate n .no ++ [.tab 0 q]) := by
      unfold startT
      rw [List.length_singleton, hn]
      rfl
    rw [e1, e2]
    exact .dat td (slAll_tab atT n)
  have ready : lfS K Z b { nx := fun _ H' => False, rt := fun v _ => v = .bl true } (L2.start N [.ref a]) H := by
    have tr : outP (b (startT N q [.dict [(.none, .list (ns.map .int))]])) = some (.bool true) := by
      unfold fnT at true_
      rw [if_pos (show [PyData.dict [(PyData.none, PyData.list (ns.map PyData.int))]].length = 1 from rfl)] at true_
      exact true_
    clear true_
    unfold outP at tr
    split at tr
    · rename_i d1 s1 hq
      cases tr
      exact ⟨_, _, _, rel, hq, fun M σ H1 v k1 r1 t1 => t1.bool⟩
    · cases tr
    · cases tr
  obtain ⟨⟨oc, od, kV, doc, pm, an, cdv, ct, osl, e1, lk, hcdv⟩, kp⟩ := F
  subst e1
  have ecd : cdv = .ref c := hcd
  subst ecd
  have slots : ∀ y ∈ [(p, Value.ref a)], (defScope st).names.lookup y.1 = some .local ∨ ((defScope st).names.lookup y.1 = some .cell ∧ ((cellsFrom (s₁.heap.objs.size + 1) (defScope st).names []).lookup y.1).isSome = true) := fun y hy => by
    obtain rfl := List.mem_singleton.mp hy
    exact (S.par p (List.mem_singleton.mpr rfl)).imp id fun z => ⟨z, PySem.W.cellsFrom_some _ _ _ (.inl z)⟩
  have ran : codeAny (model P w) callerA (.call (.ref fa) ⟨[.ref a], []⟩) (CR CX0 [] P w H s₁ (fun v _ => v = .bl true) E0) s₁ := by
    refine codeAny_call_function room.depth (KX _ _ lk) rfl S.co S.gen rfl (PySem.W.codeRec_of KX hcdv) (bt s₁ (.ref a) _ _ _ _ (wpAny_newFunctionEnv_cells S.kind slots fun env he t0 io => ?_))
    cases he
    refine ⟨hlim.keeps io.toInCall.keep, codeAny_func ?_⟩
    have begun : Inv (cxOf CX0 P w K mg (hidT s₁.heap H) N x (defScope st) fa (.ref c) callerA [] s₁ H E0) [] (L2.start N [.ref a]) H t0 := inv_start S room.hd e0 rfl (.cons rfl .nil) io
    refine wpAny_mono ((body _ s₁ H Z mod (room.deeper _) ⟨rfl, by show 4 + 3 + 100 < 9900; omega, sys⟩ TB rfl).nox.run [] t0 _ H _ begun ready) (fun fl t1 done => ?_) fun _ _ z => z
    match fl, done with
    | .ret u, ⟨v, σ', H', J, rv, q⟩ => exact ⟨v, H', J.os, J.bare, J.base, J.hok, rv, q⟩
    | .next, ⟨_, _, _, z⟩ => exact z.elim
    | .brk, ⟨_, _, _, z⟩ => exact z.elim
    | .cont, ⟨_, _, _, z⟩ => exact z.elim
  refine codeAny_mono ran fun r t1 done => ?_
  match r, done with
  | .ok (.ret u), ⟨v, H', os, bare, un, ok', rv, q⟩ =>
    subst q
    obtain rfl : u = .bool true := rv
    obtain ⟨more, hm⟩ := un.tbls T #[] atT
    rw [Array.empty_append] at hm
    have grown : t1.heap.get? T = some { cls := .none, data := .fields more } := ok' T _ hm
    have same : ∀ b o, b ≠ T → s₁.heap.get? b = some o → t1.heap.get? b = some o := fun b o nb e => by
      cases z : H b with
      | none => exact un.keep b o e z (by simp [frs]) List.not_mem_nil
      | some u =>
        rcases hH b u z with ⟨rfl, _⟩ | ⟨rfl, _, o', u', rfl⟩
        · exact absurd rfl nb
        · have now := (ok' b _ (un.frzs b o' u' z)).1
          have was := (hok b _ z).1
          rw [was] at e
          cases e
          exact now
    refine ⟨rfl, ⟨fun b o e => ?_, fun b o e => ?_⟩, os, bare⟩
    · by_cases hb : b = T
      · subst hb
        rw [hT] at e
        cases e
        exact .inr (.inl ⟨(C.tab hT).isCodeTable, rfl, #[], more, rfl, by rw [Array.empty_append]; exact grown⟩)
      · exact .inl (same b o hb e)
    · by_cases hb : b = T
      · exact ⟨_, by rw [hb]; exact grown⟩
      · exact ⟨o, same b o hb e⟩
  | .ok .next, z => exact z.elim
  | .ok .brk, z => exact z.elim
  | .ok .cont, z => exact z.elim
  | .error e, z => exact (show False from z).elim
end
/-! #### the head -/
def lawD : He.Defn := ("law", none)
def exB (cs : List (Str × PyData)) (nm ts : List Str) (K : PySem.W.Frag) : Bool := cs.all (gcB K) && exfB nm ts K
/-- the law walked: as walk_data, the law making lambdas -/
theorem walk_dataT {l : PySem.W.OpenLaw} {n k : Nat} {q : Program} {loose : List Str} {XP : (Str → Option Value) → Heap → Prop} {d : DefRec} {fa : List He.Fa} {fn : List He.DefD} {cs : List (Str × PyData)} {nm ts : List Str} {m : Nat} {p qq : Str} {st : Stmt} {N : List Str} {b : DS}
    (most : l.most = some n) (few : n ≤ sizeLine) (hdf : d.params.defaults = []) (name : d.name = "law") (alone : importsNone q = true) (room : Room (k + 1) callerA) (S : FnScope N [p] (defScope st)) (len2 : 2 ≤ N.length)
    (F : ∀ (w : World) (mg : Str → Option Value) (h : Heap) (K : PySem.W.Frag), K.In h → h.Ns mainGlobals mg → He.SaysD fa fn K → cs.all (gcB K) = true → ExF K mg nm ts → ∃ fd : FuncData, mg "law" = some (.ref (He.fAd K lawD)) ∧ Fun K "law" "law" st (He.fAd K lawD) fd ∧ (∀ (s : Shared) (u : Value), BindsTo s fd ⟨[u], []⟩ [(p, u)]) ∧
      ∀ (base : Heap) (c T : Addr) (s : Shared) (H : Hp) (Z : Par), Mod K mg base → Room k (callerA.deeper (envOfC "law" (defScope st) s.heap.objs.size (He.fAd K lawD) (.ref c))) → CG (cxOf CX0 l.prog w K mg base N "law" (defScope st) (He.fAd K lawD) (.ref c) callerA [] s H E0).nox → LamX.TabB base mg c T → Z.p[0]? = some T →
        PSs (cxOf CX0 l.prog w K mg base N "law" (defScope st) (He.fAd K lawD) (.ref c) callerA [] s H E0).nox (defBody st) (lfS K Z b))
    (T : ∀ ns : List Int, ns.length ≤ n → fnT N qq 1 b [.dict [(.none, .list (ns.map .int))]] = some (.bool true)) :
    PySem.W.WalkO q loose XP (He.hookX m fa fn [] [lawD] (exB cs nm ts)).says l.row.toRowW d [] (fun f vs => PySem.call f vs) := by
  refine Att.attach_call most hdf fun w s₀ s₁ mg mb f o pm cd doc a vs ns G Y _ _ _ hmg hobj hints hlen hg => ?_
  obtain ⟨K, X, Sy⟩ := Y
  have more := Sy.more
  unfold exB at more
  rw [Bool.and_eq_true] at more
  obtain ⟨fd, e, Fn, bt, body⟩ := F w mg _ K X G.T.g Sy.t.d more.1 (exF_of X G.T.g more.2)
  rw [name] at hmg
  obtain rfl : f = He.fAd K lawD := Value.ref.inj (Option.some.inj (hmg.symm.trans e))
  obtain ⟨mm, sees, _⟩ := (G.T.seer alone).mods
  obtain ⟨c, hc⟩ : ∃ c, fd.code = .ref c := by
    obtain ⟨⟨oc, od, kV, doc, pm, an, cdv, ct, osl, e1, lk, hcdv⟩, kp⟩ := Fn
    subst e1
    exact He.codeIn_ref hcdv
  have e2 : He.codeOf K lawD = c := by
    obtain ⟨⟨oc, od, kV, doc, pm, an, cdv, ct, osl, e1, lk, hcdv⟩, kp⟩ := Fn
    exact He.codeOf_eq lk hc
  have in1 : lawD ∈ [lawD] := List.mem_singleton.mpr rfl
  have hd := Sy.hd lawD in1
  have e3 : (He.cT K lawD).1 = c := e2
  rw [e3] at hd
  exact law_hereT X G.T.g G.T.b G.T.builtins G.T.nolimit ⟨mm, sees⟩ hg hobj hints (Nat.le_trans hlen few) room Fn S bt (Sy.empty lawD in1) (Sy.out lawD in1) (PySem.W.codeHd_of_K X hd) hc G.T.bmain len2 (fun base s H Z M r cg tb hz => body base c _ s H Z M r cg tb hz) (T ns hlen)
end Dl

/-! ### texts cut and joined, f-strings, starred displays, a list's own places exchanged -/
namespace Dl
open PySem PySem.Spec PyProof.Rows L2
section
variable {X : Cx} {Z : Par} {M : List Addr} {K : PySem.W.Frag} {o a b e : Expr} {es : List Expr} {pos : Pos} {fo fa fb fe : DE} {ga : DA}
theorem Kq.none {M' : List Addr} {H H' : Hp} {mu : Addr → Prop} (k : Kq Z M H M' H') (hm : ∀ a, Mu Z M a → ∃ o, H' a = some o) {p : Addr} (h : H' p = none) : H p = none := by
  cases q : H p with
  | none => rfl
  | some o =>
    by_cases m : Mu Z M p
    · obtain ⟨u, e⟩ := hm p m
      rw [h] at e; cases e
    · have := (k.kp p o q m).1
      rw [h] at this; cases this
/-- x.split(y), a new list -/
def gSplit : PyData → PyData → Option (List PyData)
  | .str a, .str b => if (b.length == 0) = false ∧ a.length + 2 ≤ sizeLine then some ((Txt.split a b).map .str) else none
  | _, _ => none
theorem gSplit_some {d e : PyData} {ds : List PyData} (h : gSplit d e = some ds) : ∃ a b, d = .str a ∧ e = .str b ∧ (b.length == 0) = false ∧ a.length + 2 ≤ sizeLine ∧ ds = (Txt.split a b).map .str := by
  unfold gSplit at h
  split at h
  · split at h
    · rename_i c
      cases h
      exact ⟨_, _, rfl, rfl, c.1, c.2, rfl⟩
    · cases h
  · cases h
def fSplit (fo fe : DE) : DF := fun s => (fo s).bind fun p => (fe p.2).bind fun q => (gSplit p.1 q.1).map fun ds => (ds, q.2)
theorem fsplit {apos : Pos} (ho : PE X o (lft X.K Z fo)) (he : PE X e (lft X.K Z fe)) (hs : starEach [e] X.env = [(false, eval e X.env)] := by rfl) (hbase : attributeBase o "split" X.env (eval o X.env) = eval o X.env := by rfl) (hline : (apos.endLine == pos.line) = true := by rfl) :
    PE X (.Call (.Attribute o "split" apos) [e] [] pos) (lfF X.K Z (fSplit fo fe)) := PEimp (pe_split ho he hs hbase hline) fun σ H Q h => by
  obtain ⟨M, s, ds, s', rl, hf, k⟩ := h
  unfold fSplit at hf
  simp only [Option.bind_eq_some_iff, Option.map_eq_some_iff] at hf
  obtain ⟨⟨d1, s1⟩, h1, ⟨d2, s2⟩, h2, ds', h3, h4⟩ := hf
  cases h4
  obtain ⟨a, b, e1, e2, c1, c2, rfl⟩ := gSplit_some h3
  have e1' : d1 = .str a := e1
  have e2' : d2 = .str b := e2
  subst e1' e2'
  refine ⟨M, s, .str a, s1, rl, h1, fun v H1 k1 r1 t1 => ⟨⟨a, t1.text⟩, M, s1, .str b, _, r1, h2, fun w H2 k2 r2 t2 => ⟨a, b, t1.text, by rw [t2.text], c1, c2, fun p hp => ?_⟩⟩⟩
  have kk := k1.trans k2
  exact k p _ _ (Kq.none (mu := fun _ => True) kk r2.muT hp) upd_same (kk.trans (kq_grow (grow_new hp))) (r2.addNew hp _) ((dtAll_texts _).mono (kp_addNew hp _))
/-- x.join(ys), ys a list or a tuple of texts -/
def textsD : List PyData → Option (List Str)
  | [] => some []
  | .str x :: r => (textsD r).map (x :: ·)
  | _ :: _ => none
theorem textsD_map : ∀ {ds : List PyData} {xs : List Str}, textsD ds = some xs → ds = xs.map .str
  | [], xs, h => by cases h; rfl
  | d :: r, xs, h => by
    unfold textsD at h
    split at h
    · cases h; simp_all
    · rename_i b r' e
      simp only [Option.map_eq_some_iff] at h
      obtain ⟨bs', h1, h2⟩ := h
      injection e with e1 e2
      subst e1 e2 h2
      rw [List.map_cons, ← textsD_map h1]
    · cases h
theorem textsD_of : ∀ xs : List Str, textsD (xs.map .str) = some xs
  | [] => rfl
  | x :: r => by rw [List.map_cons, textsD, textsD_of r]; rfl
def joinD (a : Str) (ds : List PyData) : Option PyData := (textsD ds).bind fun ys => if (ys.map (·.length)).sum + ys.length * a.length ≤ 16777216 then some (.str (Txt.join a ys)) else none
theorem joinD_some {a : Str} {ds : List PyData} {d : PyData} (h : joinD a ds = some d) : ∃ ys : List Str, ds = ys.map .str ∧ (ys.map (·.length)).sum + ys.length * a.length ≤ 16777216 ∧ d = .str (Txt.join a ys) := by
  unfold joinD at h
  simp only [Option.bind_eq_some_iff] at h
  obtain ⟨ys, h1, h2⟩ := h
  split at h2
  · cases h2
    exact ⟨ys, textsD_map h1, by assumption, rfl⟩
  · cases h2
def gJoin : PyData → PyData → Option PyData
  | .str a, .list ds => joinD a ds
  | .str a, .tuple ds => joinD a ds
  | _, _ => none
theorem djoin {apos : Pos} (ho : PE X o (lft X.K Z fo)) (he : PE X e (lft X.K Z fe)) (hs : starEach [e] X.env = [(false, eval e X.env)] := by rfl) (hbase : attributeBase o "join" X.env (eval o X.env) = eval o X.env := by rfl) (hline : (apos.endLine == pos.line) = true := by rfl) :
    PE X (.Call (.Attribute o "join" apos) [e] [] pos) (lft X.K Z (dOp gJoin fo fe)) := PEimp (pe_join ho he hs hbase hline) fun σ H Q h => by
  obtain ⟨M, s, d, s', rl, hf, k⟩ := h
  obtain ⟨d1, s1, d2, h1, h2, h3⟩ := dOp_some hf
  unfold gJoin at h3
  split at h3
  · obtain ⟨ys, rfl, c, rfl⟩ := joinD_some h3
    refine ⟨M, s, _, s1, rl, h1, fun v H1 k1 r1 t1 => ⟨⟨_, t1.text⟩, M, s1, _, _, r1, h2, fun w H2 k2 r2 t2 => ?_⟩⟩
    obtain ⟨p, xs, rfl, g1, g2⟩ := t2.list
    rw [g2.texts] at g1
    exact ⟨_, p, ys, t1.text, rfl, .inl g1, c, k _ H2 (k1.trans k2) r2 (.str _)⟩
  · obtain ⟨ys, rfl, c, rfl⟩ := joinD_some h3
    refine ⟨M, s, _, s1, rl, h1, fun v H1 k1 r1 t1 => ⟨⟨_, t1.text⟩, M, s1, _, _, r1, h2, fun w H2 k2 r2 t2 => ?_⟩⟩
    obtain ⟨p, xs, rfl, g1, g2⟩ := t2.tuple
    rw [g2.texts] at g1
    exact ⟨_, p, ys, t1.text, rfl, .inr g1, c, k _ H2 (k1.trans k2) r2 (.str _)⟩
  · cases h3
/-- .. of a name's own list -/
def dJoinC (fo : DE) (i : Nat) : DE := fun s => (fo s).bind fun p => (contents p.2 i).bind fun ds => match p.1 with
  | .str a => (joinD a ds).map fun d => (d, p.2)
  | _ => none
theorem djoinC (i : Nat) {apos : Pos} (ho : PE X o (lft X.K Z fo)) (he : PE X e (tVar i)) (hs : starEach [e] X.env = [(false, eval e X.env)] := by rfl) (hbase : attributeBase o "join" X.env (eval o X.env) = eval o X.env := by rfl) (hline : (apos.endLine == pos.line) = true := by rfl) :
    PE X (.Call (.Attribute o "join" apos) [e] [] pos) (lft X.K Z (dJoinC fo i)) := PEimp (pe_join ho he hs hbase hline) fun σ H Q h => by
  obtain ⟨M, s, d, s', rl, hf, k⟩ := h
  unfold dJoinC at hf
  simp only [Option.bind_eq_some_iff] at hf
  obtain ⟨⟨d1, s1⟩, h1, ds, h2, h3⟩ := hf
  dsimp only at h2 h3
  split at h3
  · simp only [Option.map_eq_some_iff] at h3
    obtain ⟨d2, h3, h4⟩ := h3
    cases h4
    obtain ⟨ys, rfl, c, rfl⟩ := joinD_some h3
    refine ⟨M, s, _, _, rl, h1, fun v H1 k1 r1 t1 => ⟨⟨_, t1.text⟩, ?_⟩⟩
    obtain ⟨p, xs, g1, g2, g3, _⟩ := r1.at h2
    rw [g3.texts] at g2
    exact ⟨.ref p, g1, _, p, ys, t1.text, rfl, .inl (.inl (.inl g2)), c, k _ H1 k1 r1 (.str _)⟩
  · cases h3
/-- len(x), x[a:b] of a name's own list -/
def dLenC (i : Nat) : DE := fun s => (contents s i).map fun ds => (.int ds.length, s)
theorem dlenC (i : Nat) {x : Str} {p : Pos} (hg : Gl X x) (hm : X.mg x = none) (hv : bootBuiltins x = some (.builtin "len")) (ha : PE X e (tVar i)) (hn : x ≠ "__name__" := by decide)
    (hdb : (x == ("__debug__" : Str)) = false := by decide) (he : starEach [e] X.env = (false, eval e X.env) :: starEach [] X.env := by rfl) (hpl : (backTo pos (starEach [] X.env)).any (·.1) = false := by rfl) : PE X (.Call (.Name x p) [e] [] pos) (lft X.K Z (dLenC i)) :=
  PEimp (pe_callB call_len hg hm hv (pa_cons ha pa_nil he) hn hdb he hpl) fun σ H Q h => by
    obtain ⟨M, s, d, s', rl, hf, k⟩ := h
    unfold dLenC at hf
    simp only [Option.map_eq_some_iff] at hf
    obtain ⟨ds, h1, h2⟩ := hf
    cases h2
    obtain ⟨p, xs, g1, g2, g3, _⟩ := rl.at h1
    exact ⟨.ref p, g1, _, _, rfl, .inl ⟨xs, .inl (.inl g2), rfl⟩, by rw [g3.len]; exact k _ H (Kq.refl _ _ _) rl (.int _)⟩
def dSlC (i : Nat) (lo hi : DO) : DE := fun s => (contents s i).bind fun _ => (lo s).bind fun q => (hi q.2).bind fun r => (contents r.2 i).map fun ds => (.list (cutD ds q.1 r.1), r.2)
theorem dslC (i : Nat) {lo hi : Option Expr} {flo fhi : DO} {p2 : Pos} (he : PE X e (tVar i)) (hl : PO X lo (lfO X.K Z flo)) (hu : PO X hi (lfO X.K Z fhi)) : PE X (.Subscript e (.Slice lo hi none p2) pos) (lft X.K Z (dSlC i flo fhi)) := PEimp (pe_slice sl_list he hl hu) fun σ H Q h => by
  obtain ⟨M, s, d, s', rl, hf, k⟩ := h
  unfold dSlC at hf
  simp only [Option.bind_eq_some_iff, Option.map_eq_some_iff] at hf
  obtain ⟨ds0, h0, ⟨o1, s2⟩, h2, ⟨o2, s3⟩, h3, ds, h4, h5⟩ := hf
  cases h5
  obtain ⟨p0, xs0, g1, _⟩ := rl.at h0
  refine ⟨.ref p0, g1, M, s, o1, s2, rl, h2, fun H2 k2 r2 => ⟨M, s2, o2, _, r2, h3, fun H3 k3 r3 => ?_⟩⟩
  obtain ⟨p1, xs, e1, e2, e3, _⟩ := r3.at h4
  rw [g1] at e1
  cases e1
  exact ⟨p0, xs, rfl, .inl (.inl e2), fun p hp => k _ _ ((k2.trans k3).trans (kq_grow (grow_new hp))) (r3.grow (grow_new hp)) (dt_newL r3.muT hp (cut_dt e3 _ _))⟩
/-- *e in a display -/
def aStar (f : DE) (g : DA) : DA := fun s => (f s).bind fun p => match p.1 with
  | .list ds => (g p.2).map fun q => (ds ++ q.1, q.2)
  | .tuple ds => (g p.2).map fun q => (ds ++ q.1, q.2)
  | _ => none
theorem dastar {p : Pos} (ha : PE X e (lft X.K Z fa)) (hb : PA X es (lfA X.K Z ga)) (hs : starEach (.Starred e p :: es) X.env = (true, eval e X.env) :: starEach es X.env := by rfl) : PA X (.Starred e p :: es) (lfA X.K Z (aStar fa ga)) := PAimp (StX.pa_star ha hb hs) fun σ H Q h => by
  obtain ⟨M, s, d, s', rl, hf, k⟩ := h
  unfold aStar at hf
  simp only [Option.bind_eq_some_iff] at hf
  obtain ⟨⟨d1, s1⟩, h1, h2⟩ := hf
  dsimp only at h2
  split at h2
  · simp only [Option.map_eq_some_iff] at h2
    obtain ⟨⟨r, s2⟩, h2, h3⟩ := h2
    cases h3
    refine ⟨M, s, _, s1, rl, h1, fun v H1 k1 r1 t1 => ?_⟩
    obtain ⟨p, xs, rfl, g1, g2⟩ := t1.list
    exact ⟨p, xs, rfl, .inr g1, M, s1, r, _, r1, h2, fun ys H2 k2 r2 t2 => k _ H2 (k1.trans k2) r2 ((g2.mono k2.kp).append t2)⟩
  · simp only [Option.map_eq_some_iff] at h2
    obtain ⟨⟨r, s2⟩, h2, h3⟩ := h2
    cases h3
    refine ⟨M, s, _, s1, rl, h1, fun v H1 k1 r1 t1 => ?_⟩
    obtain ⟨p, xs, rfl, g1, g2⟩ := t1.tuple
    exact ⟨p, xs, rfl, .inl g1, M, s1, r, _, r1, h2, fun ys H2 k2 r2 t2 => k _ H2 (k1.trans k2) r2 ((g2.mono k2.kp).append t2)⟩
  · cases h2
/-- f'..' -/
def gFmt : PyData → Option PyData
  | .str y => if y.length ≤ sizeLine then some (.str y) else none
  | .int i => if i.natAbs.log2 < 1920 then some (.str (toString i)) else none
  | _ => none
theorem dfmt (he : PE X e (lft X.K Z fe)) : PE X (.FormattedValue e (-1) none pos) (lft X.K Z (dUn gFmt fe)) := PEimp (pe_fmt he) fun σ H Q h => by
  obtain ⟨M, s, d, s', rl, hf, k⟩ := h
  obtain ⟨d1, h1, h3⟩ := dUn_some hf
  unfold gFmt at h3
  split at h3
  · split at h3
    · cases h3
      exact ⟨M, s, _, s', rl, h1, fun v H1 k1 r1 t1 => .inl ⟨_, t1.text, by assumption, k _ H1 k1 r1 (.str _)⟩⟩
    · cases h3
  · split at h3
    · cases h3
      exact ⟨M, s, _, s', rl, h1, fun v H1 k1 r1 t1 => .inr ⟨_, t1.inti, by assumption, k _ H1 k1 r1 (.str _)⟩⟩
    · cases h3
  · cases h3
def runJs : List DE → Str → Sl → Option (Str × Sl)
  | [], acc, s => some (acc, s)
  | f :: fs, acc, s => (f s).bind fun p => match p.1 with
    | .str y => if (acc ++ y).length ≤ sizeLine then runJs fs (acc ++ y) p.2 else none
    | _ => none
def dJs (fs : List DE) : DE := fun s => (runJs fs Str.empty s).map fun p => (.str p.1, p.2)
theorem lift_js : ∀ (fs : List DE) (acc : Str) {M : List Addr} {σ : L2.St} {H : Hp} {s s' : Sl} {out : Str} {Q : Str → Hp → Prop}, Rel K Z M σ H s → runJs fs acc s = some (out, s') → (∀ H', Kq Z M H M H' → Rel K Z M σ H' s' → Q out H') → tJs (fs.map (lft K Z)) acc σ H Q
  | [], acc, M, σ, H, s, s', out, Q, rl, e, k => by
    cases e
    exact k H (Kq.refl _ _ _) rl
  | f :: fs, acc, M, σ, H, s, s', out, Q, rl, e, k => by
    unfold runJs at e
    simp only [Option.bind_eq_some_iff] at e
    obtain ⟨⟨d, s1⟩, e1, e2⟩ := e
    dsimp only at e2
    split at e2
    · split at e2
      · exact ⟨M, s, _, s1, rl, e1, fun v H1 k1 r1 t1 => ⟨_, t1.text, by assumption, lift_js fs _ r1 e2 fun H2 k2 r2 => k H2 (k1.trans k2) r2⟩⟩
      · cases e2
    · cases e2
theorem djs {v1 v2 : Expr} {rest : List Expr} {fs : List DE} (h : PJ X (v1 :: v2 :: rest) (fs.map (lft X.K Z))) : PE X (.JoinedStr (v1 :: v2 :: rest) pos) (lft X.K Z (dJs fs)) := PEimp (pe_joined h) fun σ H Q h => by
  obtain ⟨M, s, d, s', rl, hf, k⟩ := h
  unfold dJs at hf
  simp only [Option.map_eq_some_iff] at hf
  obtain ⟨⟨out, s1⟩, h1, h2⟩ := hf
  cases h2
  exact lift_js fs Str.empty rl h1 fun H1 k1 r1 => k _ H1 k1 r1 (.str _)
theorem nmd_of {K : PySem.W.Frag} {mg : Str → Option Value} {nm ts : List Str} (Fx : ExF K mg nm ts) : Nmd K mg nm := fun c hc => Fx.at_ c (List.mem_cons_of_mem _ (List.mem_append_left _ hc))
theorem wordOf_in {nm : List Str} {n : Nat} {b : DS} {c w : Str} (h : wordOf nm n b (some c) = some w) : c ∈ nm := by
  unfold wordOf at h
  dsimp only at h
  split at h
  · assumption
  · cases h
/-! str(..), int(..) -/
def gStr1 : List PyData → Option PyData
  | [.int i] => if i.natAbs.log2 < 1920 then some (.str (toString i)) else none
  | [.str x] => some (.str x)
  | _ => none
def rStr1 : List V → Hp → VK → Prop := fun xs H Q => (∃ i : Int, xs = [.int i] ∧ i.natAbs.log2 < 1920 ∧ Q (.str (toString i)) H) ∨ ∃ a, xs = [.str a] ∧ Q (.str a) H
theorem call_str1 : CallR X (.type "str") rStr1 := CallR.or call_str_int SkE.call_str_str
theorem ok_str1 : CallOk K rStr1 gStr1 := fun mu H xs ds d Q hm t e k => by
  unfold gStr1 at e
  split at e
  · split at e
    case isFalse => cases e
    obtain ⟨x, rfl, t1⟩ := one_of t
    cases e
    exact .inl ⟨_, by rw [t1.inti], by assumption, k _ H (fun _ _ z => z) (.str _)⟩
  · obtain ⟨x, rfl, t1⟩ := one_of t
    cases e
    exact .inr ⟨_, by rw [t1.text], k _ H (fun _ _ z => z) (.str _)⟩
  · cases e
def gIntA : List PyData → Option PyData
  | [.int i] => some (.int i)
  | [.bool b] => some (.int (if b then 1 else 0))
  | [.str x] => if x.length ≤ 640 then (PySem.intText? x).map .int else none
  | _ => none
def rIntA : List V → Hp → VK → Prop := fun xs H Q => ((∃ i, xs = [.int i] ∧ Q (.int i) H) ∨ ∃ k, xs = [.bl k] ∧ Q (.int (if k then 1 else 0)) H) ∨ ∃ a n, xs = [.str a] ∧ PySem.intText? a = some n ∧ a.length ≤ 640 ∧ Q (.int n) H
theorem call_intA : CallR X (.type "int") rIntA := CallR.or call_int1 call_int_str
theorem ok_intA : CallOk K rIntA gIntA := fun mu H xs ds d Q hm t e k => by
  unfold gIntA at e
  split at e
  · obtain ⟨x, rfl, t1⟩ := one_of t
    cases e
    exact .inl (.inl ⟨_, by rw [t1.inti], k _ H (fun _ _ z => z) (.int _)⟩)
  · obtain ⟨x, rfl, t1⟩ := one_of t
    cases e
    exact .inl (.inr ⟨_, by rw [t1.bool], k _ H (fun _ _ z => z) (.int _)⟩)
  · split at e
    case isFalse => cases e
    obtain ⟨x, rfl, t1⟩ := one_of t
    simp only [Option.map_eq_some_iff] at e
    obtain ⟨n, e1, e2⟩ := e
    cases e2
    exact .inr ⟨_, n, by rw [t1.text], e1, by assumption, k _ H (fun _ _ z => z) (.int _)⟩
  · cases e
/-! x[a], x[b] = e, f -/
def sSwp (i : Nat) (f1 f2 k1 k2 : DE) : DS := fun s => (f1 s).bind fun p1 => (f2 p1.2).bind fun p2 => (contents p2.2 i).bind fun _ => (k1 p2.2).bind fun q1 => (contents q1.2 i).bind fun ds1 => match q1.1 with
  | .int n1 => (ixN ds1.length n1).bind fun j1 => (k2 (setC q1.2 i (ds1.set j1 p1.1))).bind fun q2 => (contents q2.2 i).bind fun ds2 => match q2.1 with
    | .int n2 => (ixN ds2.length n2).map fun j2 => .nx (setC q2.2 i (ds2.set j2 p2.1))
    | _ => none
  | _ => none
theorem sswp (i : Nat) {a1 a2 e1 e2 c1 c2 : Expr} {p1 p2 pt pt2 : Pos} {kt kt2 : Nat} {f1 f2 g1 g2 : DE} (hc : X.calm = true) (h1 : PE X e1 (lft X.K Z f1)) (h2 : PE X e2 (lft X.K Z f2)) (ha1 : PE X a1 (tVar i)) (ha2 : PE X a2 (tVar i)) (hc1 : PE X c1 (lft X.K Z g1)) (hc2 : PE X c2 (lft X.K Z g2))
    (h4 : ∀ v, assign (.Subscript a1 c1 p1) X.env v = (do
      let ov ← holding [v] (eval a1 X.env)
      let iv ← holding [v, ov] (eval c1 X.env)
      standAt p1
      holding [v, ov, iv] (setItem ov iv v)
      release [v, ov, iv] []) := by intro _; rfl)
    (h5 : ∀ v, assign (.Subscript a2 c2 p2) X.env v = (do
      let ov ← holding [v] (eval a2 X.env)
      let iv ← holding [v, ov] (eval c2 X.env)
      standAt p2
      holding [v, ov, iv] (setItem ov iv v)
      release [v, ov, iv] []) := by intro _; rfl)
    (hs1 : starEach [e1, e2] X.env = (false, eval e1 X.env) :: starEach [e2] X.env := by rfl) (hs2 : starEach [e2] X.env = (false, eval e2 X.env) :: starEach [] X.env := by rfl)
    (hs : swapsWithSole [.Tuple [.Subscript a1 c1 p1, .Subscript a2 c2 p2] kt pt] (.Tuple [e1, e2] kt2 pt2) pos.line X.env = pure false := by rfl) (hw : swappedStores [.Tuple [.Subscript a1 c1 p1, .Subscript a2 c2 p2] kt pt] (.Tuple [e1, e2] kt2 pt2) X.env = pure none := by rfl)
    (h6 : (assignEach [.Tuple [.Subscript a1 c1 p1, .Subscript a2 c2 p2] kt pt] X.env).map (·.2) = [assign (.Tuple [.Subscript a1 c1 p1, .Subscript a2 c2 p2] kt pt) X.env] := by rfl) (hn : (assignEach [.Subscript a1 c1 p1, .Subscript a2 c2 p2] X.env).length = 2 := by rfl) :
    PS X (.Assign [.Tuple [.Subscript a1 c1 p1, .Subscript a2 c2 p2] kt pt] (.Tuple [e1, e2] kt2 pt2) pos) (lfS X.K Z (sSwp i f1 f2 g1 g2)) :=
  PSimp (ps_asg (pe_tup (pa_cons h1 (pa_cons h2 pa_nil hs2) hs1)) (pg_tup hc (pgs_cons (pg_sub ha1 hc1 set_list h4) (pgs_cons (pg_sub ha2 hc2 set_list h5) pgs_nil))) hs hw h6) fun D σ H h => by
    obtain ⟨M, s, fl, rl, hf, k⟩ := h
    unfold sSwp at hf
    simp only [Option.bind_eq_some_iff] at hf
    obtain ⟨⟨d1, s1⟩, e1, ⟨d2, s2⟩, e2, ds0, e3, ⟨q1, s3⟩, e4, ds1, e5, hf⟩ := hf
    dsimp only at e2 e3 e4 e5 hf
    split at hf
    case h_2 => cases hf
    rename_i n1
    simp only [Option.bind_eq_some_iff] at hf
    obtain ⟨j1, e6, ⟨q2, s4⟩, e7, ds2, e8, hf⟩ := hf
    dsimp only at e8 hf
    split at hf
    case h_2 => cases hf
    rename_i n2
    simp only [Option.map_eq_some_iff] at hf
    obtain ⟨j2, e9, e10⟩ := hf
    cases e10
    refine ⟨M, s, d1, s1, rl, e1, fun v1 H1 k1 r1 t1 => ⟨M, s1, d2, s2, r1, e2, fun v2 H2 k2 r2 t2 => ⟨by show 2 ≤ sizeLine; decide, fun p hp => ?_⟩⟩⟩
    have r2' := r2.grow (grow_new (o := .tup [v1, v2]) hp)
    have kn : Kq Z M H2 M (upd H2 p (.tup [v1, v2])) := kq_grow (grow_new hp)
    refine ⟨p, [v1, v2], rfl, .inl (.inl upd_same), by rw [hn]; rfl, v1, [v2], rfl, ?_⟩
    obtain ⟨a0, xs0, g1, _⟩ := r2'.at e3
    refine ⟨.ref a0, g1, M, s2, .int n1, s3, r2', e4, fun w H3 k3 r3 t3 => ?_⟩
    obtain ⟨a1, xs, g3, g4, g5, g6, up⟩ := r3.at e5
    rw [g1] at g3
    cases g3
    refine ⟨a0, xs, n1, j1, rfl, t3.inti, g4, by rw [g5.len]; exact e6, ?_⟩
    have kk : Kp (Mu Z M) H3 (Mu Z M) (upd H3 a0 (.lst (xs.set j1 v1))) := fun b o e n => ⟨upd_lst b o e (fun z => n (by subst z; assumption)), n⟩
    have t1' := t1.mono (k2.trans (kn.trans k3)).kp
    have t2' := t2.mono (kn.trans k3).kp
    obtain ⟨r4, k4⟩ := up (upd H3 a0 (.lst (xs.set j1 v1))) (xs.set j1 v1) (ds1.set j1 d1) upd_same upd_lst ((DtAll.set t1' j1 g5).mono kk)
    refine ⟨v2, [], rfl, ?_⟩
    refine ⟨.ref a0, g1, M, _, .int n2, s4, r4, e7, fun w2 H5 k5 r5 t5 => ?_⟩
    obtain ⟨a3, ys, g7, g8, g9, g10, up2⟩ := r5.at e8
    rw [g1] at g7
    cases g7
    refine ⟨a0, ys, n2, j2, rfl, t5.inti, g8, by rw [g9.len]; exact e9, ?_⟩
    have kk2 : Kp (Mu Z M) H5 (Mu Z M) (upd H5 a0 (.lst (ys.set j2 v2))) := fun b o e n => ⟨upd_lst b o e (fun z => n (by subst z; assumption)), n⟩
    obtain ⟨r6, k6⟩ := up2 (upd H5 a0 (.lst (ys.set j2 v2))) (ys.set j2 v2) (ds2.set j2 d2) upd_same upd_lst ((DtAll.set (t2'.mono (k4.trans k5).kp) j2 g9).mono kk2)
    exact ⟨rfl, k M σ _ (k1.trans (k2.trans (kn.trans (k3.trans (k4.trans (k5.trans k6)))))) r6⟩
end
end Dl

/-! ### sum, least of a list; a tuple some times -/
namespace Dl
open PySem PySem.Spec PyProof.Rows L2
def intsD : List PyData → Option (List Int)
  | [] => some []
  | .int i :: r => (intsD r).map (i :: ·)
  | _ => none
theorem intsD_map : ∀ {ds : List PyData} {ns : List Int}, intsD ds = some ns → ds = ns.map .int
  | [], ns, h => by cases h; rfl
  | d :: r, ns, h => by
    unfold intsD at h
    split at h
    · rename_i q; cases q
    · rename_i i r' q
      cases q
      simp only [Option.map_eq_some_iff] at h
      obtain ⟨ms, h1, rfl⟩ := h
      rw [intsD_map h1]
      rfl
    · cases h
def gSum : List PyData → Option PyData
  | [.list ds] => (intsD ds).map fun ns => .int ns.sum
  | _ => none
def least : List Int → Int → Int
  | [], m => m
  | n :: r, m => least r (if n < m then n else m)
theorem least_mem : ∀ (r : List Int) (m : Int), least r m = m ∨ least r m ∈ r
  | [], m => .inl rfl
  | n :: r, m => by
    rw [least]
    rcases least_mem r (if n < m then n else m) with h | h
    · rw [h]
      by_cases c : n < m
      · rw [if_pos c]; exact .inr List.mem_cons_self
      · rw [if_neg c]; exact .inl rfl
    · exact .inr (List.mem_cons_of_mem _ h)
theorem least_le : ∀ (r : List Int) (m : Int), least r m ≤ m ∧ ∀ y ∈ r, least r m ≤ y
  | [], m => ⟨Int.le_refl _, fun _ h => by cases h⟩
  | n :: r, m => by
    obtain ⟨h1, h2⟩ := least_le r (if n < m then n else m)
    rw [least]
    have h3 : (if n < m then n else m) ≤ m ∧ (if n < m then n else m) ≤ n := by split <;> omega
    refine ⟨by omega, fun y hy => ?_⟩
    rcases List.mem_cons.mp hy with rfl | q
    · omega
    · exact h2 y q
/-- min(i, j), min(xs) -/
def gMin : List PyData → Option PyData
  | [.int i, .int j] => some (.int (if j < i then j else i))
  | [.list ds] => (intsD ds).bind fun ns => match ns with
    | [] => none
    | n :: r => some (.int (least r n))
  | _ => none
/-- numbers; a tuple some times -/
def gMulA : PyData → PyData → Option PyData
  | .tuple ds, .int n => if (ds ≠ [] ∧ ds.length ≤ 1000) ∧ 2 ≤ n ∧ n ≤ 1000 then some (.tuple (List.replicate n.toNat ds).flatten) else none
  | d, e => gMul d e
section
variable {X : Cx} {K : PySem.W.Frag}
theorem ok_sum : CallOk K (rSum K) gSum := fun mu H xs ds d Q hm t e k => by
  unfold gSum at e
  split at e
  · obtain ⟨x, rfl, t1⟩ := one_of t
    simp only [Option.map_eq_some_iff] at e
    obtain ⟨ns, e1, e2⟩ := e
    cases e2
    obtain ⟨a, xs, rfl, h1, u1⟩ := t1.list
    rw [intsD_map e1] at u1
    rw [u1.ints] at h1
    exact ⟨a, ns, rfl, h1, k _ H (fun _ _ z => z) (.int _)⟩
  · cases e
def rMinA (K : PySem.W.Frag) : List V → Hp → VK → Prop := fun xs H Q => (∃ i j, xs = [.int i, .int j] ∧ Q (.int (if j < i then j else i)) H) ∨ rMin K xs H Q
theorem call_minA (hc : X.calm = true) : CallR X (.builtin "min") (rMinA X.K) := fun pins s σ H xs us Q I r h =>
  h.elim (fun h => call_min2 hc pins s σ H xs us Q I r h) fun h => cr_min hc pins s σ H xs us Q I r h
theorem ok_minA : CallOk K (rMinA K) gMin := fun mu H xs ds d Q hm t e k => by
  unfold gMin at e
  split at e
  · obtain ⟨x, y, rfl, t1, u⟩ := two_of t
    cases e
    exact .inl ⟨_, _, by rw [t1.inti, u.inti], k _ H (fun _ _ z => z) (.int _)⟩
  · obtain ⟨x, rfl, t1⟩ := one_of t
    simp only [Option.bind_eq_some_iff] at e
    obtain ⟨ns, e1, e2⟩ := e
    cases ns with
    | nil => cases e2
    | cons n r =>
    cases e2
    obtain ⟨a, xs, rfl, h1, u1⟩ := t1.list
    rw [intsD_map e1] at u1
    rw [u1.ints] at h1
    refine .inr ⟨a, n :: r, rfl, h1, by simp, fun m hm2 hle => ?_⟩
    have l := least_le r n
    have e3 : m = least r n := by
      have q1 : least r n ≤ m := by
        rcases List.mem_cons.mp hm2 with rfl | z
        · exact l.1
        · exact l.2 m z
      have q2 : m ≤ least r n := by
        rcases least_mem r n with z | z
        · rw [z]; exact hle n List.mem_cons_self
        · exact hle _ (List.mem_cons_of_mem _ z)
      omega
    subst e3
    exact k _ H (fun _ _ z => z) (.int _)
  · cases e
theorem dt_rep {mu : Addr → Prop} {H : Hp} {xs : List V} {ds : List PyData} (t : DtAll K mu H xs ds) : ∀ m : Nat, DtAll K mu H (List.replicate m xs).flatten (List.replicate m ds).flatten
  | 0 => .nil
  | m + 1 => by
    rw [List.replicate_succ, List.replicate_succ, List.flatten_cons, List.flatten_cons]
    exact t.append (dt_rep t m)
def rMulA (K : PySem.W.Frag) : R2 := fun x y H Q => rI CMulW (fun i j => .int (i * j)) x y H Q ∨ rRepT K x y H Q
theorem op_mulA : OpR X (binaryOp .Mult) (rMulA X.K) := OpR.or op_mulW op_repT
theorem ok_mulA : OpOk K (rMulA K) gMulA := fun mu H x y d1 d2 d Q hm t1 t2 e k => by
  unfold gMulA at e
  split at e
  · rename_i ds n
    split at e
    case isFalse => cases e
    rename_i hc
    cases e
    obtain ⟨a, xs, rfl, h1, u1⟩ := t1.tuple
    refine .inr ⟨a, n, xs, rfl, t2.inti, h1, fun z => hc.1.1 ?_, hc.2.1, hc.2.2, by rw [u1.len]; exact hc.1.2, fun p hp => k _ _ (grow_new hp) (dt_newT hm hp (dt_rep u1 _))⟩
    subst z
    cases u1
    rfl
  · exact .inl (ok_mul mu H x y d1 d2 d Q hm t1 t2 e k)
end
end Dl

/-! ### a list taken apart, a while that may raise, list and text some times, a list of one's own compared -/
namespace Dl
open PySem PySem.Spec PyProof.Rows L2
/-- a list into as many names -/
def tgL (gs : List (PyData → Sl → Option Sl)) : PyData → Sl → Option Sl := fun d s => match d with
  | .list ds => tgTs gs ds s
  | _ => none
theorem tgl {K : PySem.W.Frag} {n : Nat} {gs : TGs} {gds : List (PyData → Sl → Option Sl)} (hn : n = gds.length) (hs : TgsOk K gs (tgTs gds)) : TgOk K (gLst K n gs) (tgL gds) := fun Z M σ H s s' x d Q r t e k => by
  unfold tgL at e
  split at e
  · rename_i ds
    obtain ⟨a, xs, rfl, h1, h2⟩ := t.list
    exact ⟨a, xs, rfl, h1, by rw [h2.len, tgTs_len e, hn], hs Z M σ H s s' xs ds Q r h2 e k⟩
  · cases e
/-- while, the body may raise -/
def xsWhile (t : DT) (b : DSx) : Nat → DSx
  | 0 => fun _ => none
  | n + 1 => fun s => (t s).bind fun p => if p.1 = true then (b p.2).bind fun r => match r with
      | .ex c s' => some (.ex c s')
      | .fl (.nx s') => xsWhile t b n s'
      | .fl (.ct s') => xsWhile t b n s'
      | .fl (.bk s') => some (.fl (.nx s'))
      | .fl (.rt d s') => some (.fl (.rt d s'))
    else some (.fl (.nx p.2))
section
variable {X : Cx} {Z : Par} {W : WX} {a b e : Expr} {es : List Expr} {pos : Pos} {fa fb fc : DE} {f : DSx} {t : DT}
theorem lift_xwhile {n : Nat} {D : Ends} {σ : L2.St} {H : Hp} (h : lfSx X.K X.mg Z W (xsWhile t f n) D σ H) : tWhile (lfT X.K Z t) (lfSx X.K X.mg Z W f) D σ H := by
  obtain ⟨M, s, r, rl, hf, k⟩ := h
  refine ⟨fun m σ' H' => ∃ M' s', Kq Z M H M' H' ∧ Rel X.K Z M' σ' H' s' ∧ xsWhile t f m s' = some r, ⟨n, M, s, Kq.refl _ _ _, rl, hf⟩, ?_⟩
  rintro m σ' H' ⟨M', s', k2, r2, h3⟩
  cases m with
  | zero => cases h3
  | succ m =>
    unfold xsWhile at h3
    simp only [Option.bind_eq_some_iff] at h3
    obtain ⟨⟨b1, s1⟩, e1, h4⟩ := h3
    dsimp only at h4
    refine ⟨M', s', b1, s1, r2, e1, fun H1 k1 r1 => ?_⟩
    cases b1 with
    | true =>
      rw [if_pos rfl]
      rw [if_pos rfl] at h4
      simp only [Option.bind_eq_some_iff] at h4
      obtain ⟨fl1, e2, h5⟩ := h4
      refine ⟨fun σ3 H3 => ∃ M3 s3, Kq Z M H M3 H3 ∧ Rel X.K Z M3 σ3 H3 s3 ∧ xsWhile t f m s3 = some r, fun σ3 H3 q => ⟨m, Nat.lt_succ_self _, q⟩, ?_⟩
      refine ⟨M', s1, fl1, r1, e2, ?_⟩
      have kk : Kq Z M H M' H1 := k2.trans k1
      match fl1, h5 with
      | .ex c s4, h5 => cases h5; exact ExAt.mono kk k
      | .fl (.nx s4), h5 => exact fun M4 σ4 H4 k4 r4 => ⟨M4, s4, kk.trans k4, r4, h5⟩
      | .fl (.ct s4), h5 => exact fun M4 σ4 H4 k4 r4 => ⟨M4, s4, kk.trans k4, r4, h5⟩
      | .fl (.bk s4), h5 => cases h5; exact fun M4 σ4 H4 k4 r4 => k M4 σ4 H4 (kk.trans k4) r4
      | .fl (.rt d4 s4), h5 => cases h5; exact fun M4 σ4 H4 v4 k4 r4 t4 => k M4 σ4 H4 v4 (kk.trans k4) r4 t4
    | false =>
      rw [if_neg Bool.false_ne_true]
      rw [if_neg Bool.false_ne_true] at h4
      cases h4
      exact k M' σ' H1 (k2.trans k1) r1
theorem xswhile (n : Nat) {c : Expr} {body : List Stmt} (hp : PassesOwn (model X.prog X.w) X.A X.env X.xe) (hc : PT X c (lfT X.K Z t)) (hb : PSs X body (lfSx X.K X.mg Z W f)) : PS X (.While c body [] pos) (lfSx X.K X.mg Z W (xsWhile t f n)) :=
  PSimp (ps_while hp hc hb) fun _ _ _ h => lift_xwhile h
/-- a list of one's own, on the left of a comparison -/
def dOpC (g : PyData → PyData → Option PyData) (i : Nat) (fb : DE) : DE := fun s => (contents s i).bind fun _ => (fb s).bind fun q => (contents q.2 i).bind fun ds => (g (.list ds) q.1).bind fun d => match d with
  | .bool b => some (.bool b, q.2)
  | _ => none
theorem lift_opC {r : R2} {g : PyData → PyData → Option PyData} (ok : OpOk X.K r g) {i : Nat} {σ : L2.St} {H : Hp} {Q : VK} (h : lft X.K Z (dOpC g i fb) σ H Q) : tOp r (tVar i) (lft X.K Z fb) σ H Q := by
  obtain ⟨M, s, d, s', rl, hf, k⟩ := h
  unfold dOpC at hf
  simp only [Option.bind_eq_some_iff] at hf
  obtain ⟨ds0, h0, ⟨d2, s2⟩, h1, ds, h2, d3, h3, h4⟩ := hf
  dsimp only at h2 h3 h4
  obtain ⟨a0, xs0, e0, _⟩ := rl.at h0
  refine ⟨.ref a0, e0, M, s, d2, s2, rl, h1, fun v H1 k1 r1 t1 => ?_⟩
  obtain ⟨a1, xs, e1, e2, e3, e4, _⟩ := r1.at h2
  rw [e0] at e1
  cases e1
  have kk : Kp (Mu Z M) H1 (fun b => Mu Z M b ∧ b ≠ a0) H1 := fun b o e n => ⟨e, fun z => n z.1⟩
  refine ok (fun b => Mu Z M b ∧ b ≠ a0) H1 (.ref a0) v (.list ds) d2 d3 Q (fun b hb => r1.muT b hb.1) (.lst (.inl e2) (fun z => z.2 rfl) (e3.mono kk)) (t1.mono kk) h3 fun v2 H2 g2 t2 => ?_
  split at h4
  · cases h4
    rw [t2.bool]
    exact k _ H2 (k1.trans (kq_grow g2)) (r1.grow g2) (.bl _)
  · cases h4
theorem dcmpC {op : CmpOp} {r : R2} {g : PyData → PyData → Option PyData} (i : Nat) (ho : OpR X (compareOp op) r) (ok : OpOk X.K r g) (ha : PE X a (tVar i)) (hb : PE X b (lft X.K Z fb)) (hm : behindInMarks op b = false) : PE X (.Compare a [op] [b] pos) (lft X.K Z (dOpC g i fb)) :=
  PEimp (pe_cmpR ho ha hb hm) fun _ _ _ h => lift_opC ok h
theorem dtcmpC {op : CmpOp} {r : R2} {g : PyData → PyData → Option PyData} (i : Nat) (ho : OpR X (compareOp op) r) (ok : OpOk X.K r g) (ha : PE X a (tVar i)) (hb : PE X b (lft X.K Z fb)) (hm : behindInMarks op b = false) : PT X (.Compare a [op] [b] pos) (lfT X.K Z (dTst (dOpC g i fb))) :=
  PTimp (pt_cmpR ho ha hb hm) fun σ H Q h => by
    obtain ⟨M, s, b, s', rl, hf, k⟩ := h
    exact lift_opC ok ⟨M, s, .bool b, s', rl, dTst_some hf, fun v H' k1 r1 t1 => ⟨b, t1.bool, k H' k1 r1⟩⟩
end
section
variable {X : Cx} {K : PySem.W.Frag}
/-- a list that is read, some times -/
def rRepL (K : PySem.W.Frag) : R2 := fun x y H Q => ∃ l k xs, x = .ref l ∧ y = .int k ∧ Rd H l (.lst xs) ∧ -(2 ^ 63) ≤ k ∧ k < 2 ^ 63 ∧ xs.length * k.toNat ≤ sizeLine ∧
  ∀ p, H p = none → Q (.ref p) (upd H p (.lst (List.replicate k.toNat xs).flatten))
theorem op_repL : OpR X (binaryOp .Mult) (rRepL X.K) := by
  intro pins s σ H x y v u Q I rx ry h
  obtain ⟨l, k, xs, rfl, rfl, hH, h1, h2, hz, q⟩ := h
  cases rx
  obtain ⟨t, rfl⟩ := ry
  obtain ⟨z, its, n, r, e⟩ := hH.ok I.hok
  have hl := r.length
  have hlen : its.toArray.size * k.toNat ≤ sizeLine := by rw [List.size_toArray, ← hl]; exact hz
  have hcap : ¬ its.toArray.size * k.toNat > (2 ^ 63 - 1) / 8 := by
    have : (sizeLine : Nat) ≤ (2 ^ 63 - 1) / 8 := by decide
    omega
  have hfit : ¬ (!Builtin.List.listFitsIndex k) = true := by
    rw [fitsIndex_both h1 h2]
    exact Bool.false_ne_true
  have hlong : ¬ Builtin.List.listTooLong (its.toArray.size * k.toNat) = true := by
    rw [notLongL hlen]
    exact Bool.false_ne_true
  have hnew : List.foldl (fun x1 x2 => x1 ++ x2) #[] (List.replicate (if its.toArray.isEmpty = true then 0 else k.toNat) its.toArray) = (List.replicate k.toNat its).flatten.toArray := by
    have f0 : ∀ m : Nat, List.foldl (fun x1 x2 => x1 ++ x2) #[] (List.replicate m its.toArray) = (List.replicate m its).flatten.toArray := fun m => by
      have := foldl_rep its m []
      rw [List.nil_append] at this
      exact this
    rw [f0]
    cases its with
    | nil => simp
    | cons a r' => rw [if_neg (by simp)]
  refine wpAny_binaryOp_repeat_ref (T := "list") (U := "int") (by decide) ⟨_, e, rfl⟩ (fun s' => typeIs_int s' k t) noFill_list_mul F.fills_int_mul F.slot_int_rmul repeat_list F.slot_int_index.lookup
    (call_meets F.slot_int_rmul (typeIs_int s k t) F.entry_int_rmul (F.args_int_rmul_2 _ _) (int___rmul___int_list k t l its.toArray n)
      ⟨e, rfl, ⟨_, e, rfl⟩, call_meets F.slot_list_mul ⟨_, e, rfl⟩ F.entry_list_mul (F.args_list_mul_2 _ _) (AutoListH.list___mul___list_int_3 l its.toArray n k t hfit hcap hlong) ⟨e, ?_⟩⟩)
  rw [hnew]
  exact ⟨.ref _, _, I.lnew (t' := s.toks) (r.rep k.toNat) (by rw [PyProof.Rows.lm_len_rep_flat, Nat.mul_comm]; exact hz), rfl, q _ I.fresh⟩
/-- a text some times, twice at least -/
def repS (x : Str) (n : Nat) : Str := ⟨(List.replicate n x.cps).foldl (· ++ ·) #[]⟩
def rRepS : R2 := fun x y H Q => ∃ z k, x = .str z ∧ y = .int k ∧ 2 ≤ k ∧ k < 1000 ∧ 1 ≤ z.length ∧ z.length ≤ 1000 ∧ Q (.str (repS z k.toNat)) H
theorem op_repS : OpR X (binaryOp .Mult) rRepS := by
  intro pins s σ H x y v u Q I rx ry h
  obtain ⟨z, k, rfl, rfl, h1, h2, h3, h4, q⟩ := h
  obtain ⟨t, rfl⟩ := rx
  obtain ⟨t', rfl⟩ := ry
  have n1 : ¬ k < 1 := by omega
  have n2 : (k == 1 || z.length == 0) = false := by
    rw [Bool.or_eq_false_iff]
    exact ⟨beq_eq_false_iff_ne.mpr (by omega), beq_eq_false_iff_ne.mpr (by omega)⟩
  have n3 : z.length * k.toNat ≤ 1000 * 1000 := Nat.mul_le_mul h4 (by omega)
  have n4 : Builtin.Str.tooLong (z.length * k.toNat) = false := by
    unfold Builtin.Str.tooLong
    have : (sizeLine : Nat) ≥ 1000 * 1000 := by decide
    simp only [decide_eq_false_iff_not]
    omega
  refine PySem.P.mul_str (by
    have a1 : ¬ k < -(2 ^ 63 : Int) := by omega
    have a2 : ¬ k ≥ 2 ^ 63 := by omega
    rw [decide_eq_false a1, decide_eq_false a2]; rfl) (fun _ _ => ?_) (fun _ _ => n4) ?_
  · have : (1000 : Int) ≤ (2 ^ 63 - 1) / k := by
      rw [Int.le_ediv_iff_mul_le (by omega)]
      omega
    omega
  · rw [if_neg n1, n2, if_neg Bool.false_ne_true]
    exact ⟨fits_reps n4, .str _, H, I.tok _, ⟨_, rfl⟩, q⟩
/-- what of the two is defined -/
def gMulB : PyData → PyData → Option PyData
  | .list ds, .int n => if (-(2 ^ 63) ≤ n ∧ n < 2 ^ 63) ∧ ds.length * n.toNat ≤ sizeLine then some (.list (List.replicate n.toNat ds).flatten) else none
  | .str z, .int n => if (2 ≤ n ∧ n < 1000) ∧ 1 ≤ z.length ∧ z.length ≤ 1000 then some (.str (repS z n.toNat)) else none
  | d, e => gMul d e
def rMulB (K : PySem.W.Frag) : R2 := fun x y H Q => (rI CMulW (fun i j => .int (i * j)) x y H Q ∨ rRepL K x y H Q) ∨ rRepS x y H Q
theorem op_mulB : OpR X (binaryOp .Mult) (rMulB X.K) := OpR.or (OpR.or op_mulW op_repL) op_repS
theorem ok_mulB : OpOk K (rMulB K) gMulB := fun mu H x y d1 d2 d Q hm t1 t2 e k => by
  unfold gMulB at e
  split at e
  · rename_i ds n
    split at e
    case isFalse => cases e
    rename_i hc
    cases e
    obtain ⟨a, xs, rfl, h1, u1⟩ := t1.listR
    exact .inl (.inr ⟨a, n, xs, rfl, t2.inti, h1, hc.1.1, hc.1.2, by rw [u1.len]; exact hc.2, fun p hp => k _ _ (grow_new hp) (dt_newL hm hp (dt_rep u1 _))⟩)
  · rename_i z n
    split at e
    case isFalse => cases e
    rename_i hc
    cases e
    exact .inr ⟨z, n, t1.text, t2.inti, hc.1.1, hc.1.2, hc.2.1, hc.2.2, k _ H (fun _ _ z => z) (.str _)⟩
  · exact .inl (.inl (ok_mul mu H x y d1 d2 d Q hm t1 t2 e k))
end
section
variable {P : Program} {w : World} {K : PySem.W.Frag} {mg : Str → Option Value} {base : Heap}
theorem Std.noneX {x : Str} {st : Stmt} {ps : List Str} (c : Std K mg x st ps) (k : Nat) : CalX P w K mg base k x ps (spX K mg fun _ => none) := by
  obtain ⟨f, fd, F, hm, hb⟩ := c
  refine ⟨f, fd, ⟨fun vs H Q E h => ?_, fun A outer s H args us vs Q E hr e hb hv h => ?_⟩, hm, F.kp, hb⟩
  · obtain ⟨_, _, _, _, _, h, _⟩ := h
    cases h
  · obtain ⟨_, _, _, _, _, h, _⟩ := h
    cases h
end
end Dl

/-! ### dicts, by numbers and texts, by tuples of these -/
namespace Dl
open PySem PySem.Spec PyProof.Rows L2
def kOf : PyData → Option Key
  | .int i => some (.inl i)
  | .str x => some (.inr x)
  | _ => none
theorem kOf_kD (k : Key) : kOf (kD k) = some k := by cases k <;> rfl
theorem kOf_eq {d : PyData} {k : Key} (h : kOf d = some k) : d = kD k := by
  cases d <;> cases h <;> rfl
def ksOf : List PyData → Option (List Key)
  | [] => some []
  | d :: r => (kOf d).bind fun k => (ksOf r).map (k :: ·)
theorem ksOf_map : ∀ ks : List Key, ksOf (ks.map kD) = some ks
  | [] => rfl
  | k :: r => by rw [List.map_cons, ksOf, kOf_kD, Option.bind_some, ksOf_map r]; rfl
theorem ksOf_eq : ∀ {ds : List PyData} {ks : List Key}, ksOf ds = some ks → ds = ks.map kD
  | [], _, h => by cases h; rfl
  | d :: r, ks, h => by
    unfold ksOf at h
    simp only [Option.bind_eq_some_iff, Option.map_eq_some_iff] at h
    obtain ⟨k, h1, r', h2, rfl⟩ := h
    rw [List.map_cons, ← kOf_eq h1, ← ksOf_eq h2]
/-- a key that is a tuple: of numbers and texts, one number at least -/
def keyT : PyData → Option (List Key)
  | .tuple ds => if keyless ds = true then none else ksOf ds
  | _ => none
section
variable {κ : Type} [DecidableEq κ]
def getL (ds : List (κ × PyData)) (k : κ) : Option PyData := (ds.find? fun p => decide (p.1 = k)).map (·.2)
def putL (ds : List (κ × PyData)) (k : κ) (d : PyData) : List (κ × PyData) := if (ds.any fun p => decide (p.1 = k)) = true then ds.map (fun p => if p.1 = k then (p.1, d) else p) else ds ++ [(k, d)]
theorem getL_cons {p : κ × PyData} {r : List (κ × PyData)} {k : κ} : getL (p :: r) k = if p.1 = k then some p.2 else getL r k := by
  unfold getL
  rw [List.find?_cons]
  by_cases e : p.1 = k
  · rw [if_pos e]; simp [e]
  · rw [if_neg e]; simp [e]
theorem valV_cons {p : κ × V} {r : List (κ × V)} {k : κ} : valV (p :: r) k = if p.1 = k then some p.2 else valV r k := by
  by_cases e : p.1 = k
  · rw [if_pos e, valV_pos e]
  · rw [if_neg e, valV_neg e]
theorem putK_cons {p : κ × V} {r : List (κ × V)} {k : κ} {v : V} (e : p.1 ≠ k) : putK (p :: r) k v = p :: putK r k v := by
  unfold putK
  rw [List.any_cons, decide_eq_false e, Bool.false_or]
  split
  · rw [List.map_cons, if_neg e]
  · rfl
theorem putL_cons {p : κ × PyData} {r : List (κ × PyData)} {k : κ} {v : PyData} (e : p.1 ≠ k) : putL (p :: r) k v = p :: putL r k v := by
  unfold putL
  rw [List.any_cons, decide_eq_false e, Bool.false_or]
  split
  · rw [List.map_cons, if_neg e]
  · rfl
end
/-- dicts by numbers and texts, as trees -/
def getF (ds : List (PyData × PyData)) (k : Key) : Option PyData := (ds.find? fun p => decide (kOf p.1 = some k)).map (·.2)
def putF (ds : List (PyData × PyData)) (k : Key) (d : PyData) : List (PyData × PyData) := if (ds.any fun p => decide (kOf p.1 = some k)) = true then ds.map (fun p => if kOf p.1 = some k then (p.1, d) else p) else ds ++ [(kD k, d)]
section
variable {K : PySem.W.Frag} {mu : Addr → Prop} {H : Hp}
theorem DtAll.keys : ∀ {xs : List V} {ks : List Key}, DtAll K mu H xs (ks.map kD) → xs = ks.map kV
  | _, [], .nil => rfl
  | _, .inl i :: r, .cons h t => by
    rw [List.map_cons, ← DtAll.keys t, (show Dt K mu H _ (.int i) from h).inti]
    rfl
  | _, .inr x :: r, .cons h t => by
    rw [List.map_cons, ← DtAll.keys t, (show Dt K mu H _ (.str x) from h).text]
    rfl
theorem Dt.keyT {v : V} {d : PyData} {ks : List Key} (t : Dt K mu H v d) (e : keyT d = some ks) : ∃ b, v = .ref b ∧ H b = some (.tup (ks.map kV)) := by
  unfold Dl.keyT at e
  split at e
  · split at e
    · cases e
    · rename_i ds nk
      have := ksOf_eq e
      subst this
      cases t with
      | tup h n t =>
        obtain rfl := t.keys
        exact ⟨_, rfl, h⟩
      | tupK h z t => exact absurd z nk
  · cases e
theorem Dt.keyF {v : V} {d : PyData} {k : Key} (t : Dt K mu H v d) (e : kOf d = some k) : v = kV k := by
  have := kOf_eq e
  subst this
  cases k with
  | inl i => exact (show Dt K mu H v (.int i) from t).inti
  | inr x => exact (show Dt K mu H v (.str x) from t).text
/-- what a look says -/
def SameO (K : PySem.W.Frag) (mu : Addr → Prop) (H : Hp) : Option V → Option PyData → Prop
  | some v, some d => Dt K mu H v d
  | none, none => True
  | _, _ => False
theorem DtKT.get (k : List Key) : ∀ {kvs : List (List Key × V)} {ds : List (List Key × PyData)}, DtKT K mu H kvs ds → SameO K mu H (valV kvs k) (getL ds k)
  | _, _, .nil => True.intro
  | _, _, .cons (k := k') h t => by
    rw [valV_cons, getL_cons]
    dsimp only
    by_cases e : k' = k
    · rw [if_pos e, if_pos e]; exact h
    · rw [if_neg e, if_neg e]; exact DtKT.get k t
theorem getF_cons {d1 d2 : PyData} {r : List (PyData × PyData)} {k' k : Key} (h : d1 = kD k') : getF ((d1, d2) :: r) k = if k' = k then some d2 else getF r k := by
  subst h
  unfold getF
  rw [List.find?_cons]
  have : (kOf (kD k') = some k) ↔ k' = k := by rw [kOf_kD]; exact ⟨Option.some.inj, fun e => by rw [e]⟩
  by_cases e : k' = k
  · rw [if_pos e]; simp [this.mpr e]
  · rw [if_neg e]
    dsimp only
    rw [decide_eq_false (fun z => e (this.mp z))]
theorem DtKv.get (k : Key) : ∀ {kvs : List (Key × V)} {ds : List (PyData × PyData)}, DtKv K mu H kvs ds → SameO K mu H (valV kvs k) (getF ds k)
  | _, _, .nil => True.intro
  | _, _, .cons (k := k') h t => by
    rw [valV_cons, getF_cons rfl]
    dsimp only
    by_cases e : k' = k
    · rw [if_pos e, if_pos e]; exact h
    · rw [if_neg e, if_neg e]; exact DtKv.get k t
theorem DtKT.len : ∀ {kvs : List (List Key × V)} {ds : List (List Key × PyData)}, DtKT K mu H kvs ds → kvs.length = ds.length
  | _, _, .nil => rfl
  | _, _, .cons _ t => by rw [List.length_cons, List.length_cons, DtKT.len t]
theorem DtKv.len : ∀ {kvs : List (Key × V)} {ds : List (PyData × PyData)}, DtKv K mu H kvs ds → kvs.length = ds.length
  | _, _, .nil => rfl
  | _, _, .cons _ t => by rw [List.length_cons, List.length_cons, DtKv.len t]
theorem DtKT.any (k : List Key) : ∀ {kvs : List (List Key × V)} {ds : List (List Key × PyData)}, DtKT K mu H kvs ds → (kvs.any fun p => decide (p.1 = k)) = ds.any fun p => decide (p.1 = k)
  | _, _, .nil => rfl
  | _, _, .cons _ t => by rw [List.any_cons, List.any_cons, DtKT.any k t]
theorem DtKT.map (k : List Key) {v : V} {d : PyData} (h : Dt K mu H v d) : ∀ {kvs : List (List Key × V)} {ds : List (List Key × PyData)}, DtKT K mu H kvs ds → DtKT K mu H (kvs.map fun p => if p.1 = k then (p.1, v) else p) (ds.map fun p => if p.1 = k then (p.1, d) else p)
  | _, _, .nil => .nil
  | _, _, .cons (k := k') g t => by
    rw [List.map_cons, List.map_cons]
    dsimp only
    by_cases e : k' = k
    · rw [if_pos e, if_pos e]; exact .cons h (DtKT.map k h t)
    · rw [if_neg e, if_neg e]; exact .cons g (DtKT.map k h t)
theorem DtKT.app : ∀ {kvs ls : List (List Key × V)} {ds es : List (List Key × PyData)}, DtKT K mu H kvs ds → DtKT K mu H ls es → DtKT K mu H (kvs ++ ls) (ds ++ es)
  | _, _, _, _, .nil, h => h
  | _, _, _, _, .cons g t, h => .cons g (DtKT.app t h)
theorem DtKT.put (k : List Key) {v : V} {d : PyData} (h : Dt K mu H v d) {kvs : List (List Key × V)} {ds : List (List Key × PyData)} (t : DtKT K mu H kvs ds) : DtKT K mu H (putK kvs k v) (putL ds k d) := by
  unfold putK putL
  rw [t.any k]
  split
  · exact t.map k h
  · exact t.app (.cons h .nil)
theorem DtKv.any (k : Key) : ∀ {kvs : List (Key × V)} {ds : List (PyData × PyData)}, DtKv K mu H kvs ds → (kvs.any fun p => decide (p.1 = k)) = ds.any fun p => decide (kOf p.1 = some k)
  | _, _, .nil => rfl
  | _, _, .cons (k := k') _ t => by
    rw [List.any_cons, List.any_cons, DtKv.any k t]
    congr 1
    rw [kOf_kD]
    exact decide_eq_decide.mpr ⟨congrArg some, Option.some.inj⟩
theorem DtKv.mapK (k : Key) {v : V} {d : PyData} (h : Dt K mu H v d) : ∀ {kvs : List (Key × V)} {ds : List (PyData × PyData)}, DtKv K mu H kvs ds → DtKv K mu H (kvs.map fun p => if p.1 = k then (p.1, v) else p) (ds.map fun p => if kOf p.1 = some k then (p.1, d) else p)
  | _, _, .nil => .nil
  | _, _, .cons (k := k') g t => by
    rw [List.map_cons, List.map_cons]
    dsimp only
    rw [kOf_kD]
    by_cases e : k' = k
    · rw [if_pos e, if_pos (congrArg some e)]; exact .cons h (DtKv.mapK k h t)
    · rw [if_neg e, if_neg (fun z => e (Option.some.inj z))]; exact .cons g (DtKv.mapK k h t)
theorem DtKv.app : ∀ {kvs ls : List (Key × V)} {ds es : List (PyData × PyData)}, DtKv K mu H kvs ds → DtKv K mu H ls es → DtKv K mu H (kvs ++ ls) (ds ++ es)
  | _, _, _, _, .nil, h => h
  | _, _, _, _, .cons g t, h => .cons g (DtKv.app t h)
theorem DtKv.put (k : Key) {v : V} {d : PyData} (h : Dt K mu H v d) {kvs : List (Key × V)} {ds : List (PyData × PyData)} (t : DtKv K mu H kvs ds) : DtKv K mu H (putK kvs k v) (putF ds k d) := by
  unfold putK putF
  rw [t.any k]
  split
  · exact t.mapK k h
  · exact t.app (.cons h .nil)
end
/-! the entries of a dict by tuples, back from the tree -/
def unT : List (PyData × PyData) → Option (List (List Key × PyData))
  | [] => some []
  | (.tuple ds, d) :: r => (ksOf ds).bind fun k => (unT r).map ((k, d) :: ·)
  | _ => none
theorem unT_kvD : ∀ ds : List (List Key × PyData), unT (kvD ds) = some ds
  | [] => rfl
  | (k, d) :: r => by
    show unT ((.tuple (k.map kD), d) :: kvD r) = _
    unfold unT
    rw [ksOf_map, Option.bind_some, unT_kvD r]
    rfl
/-- a look into a dict: nothing where it is none, or the key is of no such kind -/
def lookD : PyData → PyData → Option (Option PyData)
  | .dict ((.none, .none) :: r), k => (keyT k).bind fun kk => (unT r).map fun ds => getL ds kk
  | .dict kvs, k => if realD kvs = true then (kOf k).map fun kk => getF kvs kk else none
  | _, _ => none
theorem lookD_t {ds : List (List Key × PyData)} {k : PyData} {kk : List Key} (h : keyT k = some kk) : lookD (.dict ((.none, .none) :: kvD ds)) k = some (getL ds kk) := by
  show ((keyT k).bind fun kk => (unT (kvD ds)).map fun ds => getL ds kk) = _
  rw [h, Option.bind_some, unT_kvD]
  rfl
section
variable {K : PySem.W.Frag} {mu : Addr → Prop} {H : Hp}
theorem DtKv.real {kvs : List (Key × V)} {ds : List (PyData × PyData)} (t : DtKv K mu H kvs ds) : realD ds = true ∧ ∀ k, lookD (.dict ds) k = (kOf k).map fun kk => getF ds kk := by
  cases t with
  | nil => exact ⟨rfl, fun k => rfl⟩
  | cons h t =>
    rename_i k v vs d ds
    cases k <;> exact ⟨rfl, fun k => rfl⟩
theorem look_ok {v y : V} {d k : PyData} {o : Option PyData} (t : Dt K mu H v d) (u : Dt K mu H y k) (e : lookD d k = some o) : ∃ a ov, v = .ref a ∧ DGet H a y ov ∧ IsD H a ∧ SameO K mu H ov o := by
  cases t with
  | dcT h n t =>
    have e : ((keyT k).bind fun kk => (unT (kvD _)).map fun ds => getL ds kk) = some o := e
    rw [unT_kvD] at e
    simp only [Option.bind_eq_some_iff, Option.map_some, Option.some.injEq] at e
    obtain ⟨kk, e1, rfl⟩ := e
    obtain ⟨b, rfl, hb⟩ := u.keyT e1
    exact ⟨_, _, rfl, DGet.t h hb, .inr ⟨_, .inl h⟩, t.get kk⟩
  | dct h n t =>
    rw [t.real.2] at e
    simp only [Option.map_eq_some_iff] at e
    obtain ⟨kk, e1, rfl⟩ := e
    obtain rfl := u.keyF e1
    exact ⟨_, _, rfl, DGet.k h, .inl ⟨_, .inl h⟩, t.get kk⟩
  | scr h t => simp [lookD, realD] at e
  | exc h n => simp [lookD, realD] at e
  | _ => cases e
end
def gGetD (d k : PyData) : Option PyData := (lookD d k).bind id
def gInD (neg : Bool) (k d : PyData) : Option PyData := (lookD d k).map fun o => .bool (if neg then o.isNone else o.isSome)
section
variable {X : Cx} {Z : Par} {a b e i o : Expr} {pos : Pos} {fo fi fe : DE}
theorem sameO_some {K : PySem.W.Frag} {mu : Addr → Prop} {H : Hp} {ov : Option V} {d : PyData} (h : SameO K mu H ov (some d)) : ∃ v, ov = some v ∧ Dt K mu H v d := by
  cases ov with
  | none => exact h.elim
  | some v => exact ⟨v, rfl, h⟩
theorem sameO_is {K : PySem.W.Frag} {mu : Addr → Prop} {H : Hp} {ov : Option V} {o : Option PyData} (h : SameO K mu H ov o) : ov.isSome = o.isSome := by
  cases ov <;> cases o <;> first | rfl | exact h.elim
/-- d[k], there -/
theorem dgetd (hu : X.A.units + 1 < cLine) (ho : PE X o (lft X.K Z fo)) (hi : PE X i (lft X.K Z fi)) (hs : NoSl i := by exact fun _ _ => rfl) : PE X (.Subscript o i pos) (lft X.K Z (dOp gGetD fo fi)) := PEimp (pe_dget hu ho hi hs) fun σ H Q h => by
  obtain ⟨M, s, d, s', rl, hf, k⟩ := h
  obtain ⟨d1, s1, d2, h1, h2, h3⟩ := dOp_some hf
  unfold gGetD at h3
  simp only [Option.bind_eq_some_iff, id] at h3
  obtain ⟨o, h4, rfl⟩ := h3
  refine ⟨M, s, d1, s1, rl, h1, fun x H1 k1 r1 t1 => ⟨M, s1, d2, s', r1, h2, fun y H2 k2 r2 t2 => ?_⟩⟩
  obtain ⟨a, ov, rfl, g, _, so⟩ := look_ok (t1.mono k2.kp) t2 h4
  obtain ⟨v, rfl, tv⟩ := sameO_some so
  exact ⟨a, v, rfl, g, k v H2 (k1.trans k2) r2 tv⟩
theorem lift_ind {neg : Bool} {σ : L2.St} {H : Hp} {Q : VK} (h : lft X.K Z (dOp (gInD neg) fi fo) σ H Q) : lft X.K Z fi σ H fun y H1 => lft X.K Z fo σ H1 fun x H2 => ∃ a ov, x = .ref a ∧ DGet H2 a y ov ∧ Q (.bl (if neg then !ov.isSome else ov.isSome)) H2 := by
  obtain ⟨M, s, d, s', rl, hf, k⟩ := h
  obtain ⟨d1, s1, d2, h1, h2, h3⟩ := dOp_some hf
  unfold gInD at h3
  simp only [Option.map_eq_some_iff] at h3
  obtain ⟨o, h4, rfl⟩ := h3
  refine ⟨M, s, d1, s1, rl, h1, fun x H1 k1 r1 t1 => ⟨M, s1, d2, s', r1, h2, fun y H2 k2 r2 t2 => ?_⟩⟩
  obtain ⟨a, ov, rfl, g, _, so⟩ := look_ok t2 (t1.mono k2.kp) h4
  refine ⟨a, ov, rfl, g, ?_⟩
  have e := sameO_is so
  cases o with
  | none =>
    have e' : ov.isSome = false := e
    rw [e']
    exact k _ H2 (k1.trans k2) r2 (.bl _)
  | some d =>
    have e' : ov.isSome = true := e
    rw [e']
    exact k _ H2 (k1.trans k2) r2 (.bl _)
/-- k in d, k not in d -/
theorem dind (hu : X.A.units + 1 < cLine) (hi : PE X i (lft X.K Z fi)) (ho : PE X o (lft X.K Z fo)) (hm : behindInMarks .In o = false := by with_unfolding_all rfl) : PE X (.Compare i [.In] [o] pos) (lft X.K Z (dOp (gInD false) fi fo)) := PEimp (pe_cmp (pc_din hu hi ho) hm) fun σ H Q h => lift_ind h
theorem dnotind (hu : X.A.units + 1 < cLine) (hi : PE X i (lft X.K Z fi)) (ho : PE X o (lft X.K Z fo)) (hm : behindInMarks .NotIn o = false := by with_unfolding_all rfl) : PE X (.Compare i [.NotIn] [o] pos) (lft X.K Z (dOp (gInD true) fi fo)) := PEimp (pe_cmp (pc_dnotin hu hi ho) hm) fun σ H Q h => lift_ind h
end

/-! tests -/
section
variable {X : Cx} {Z : Par} {a b e i o : Expr} {pos : Pos} {fo fi fe : DE}
theorem lift_indT {neg : Bool} {σ : L2.St} {H : Hp} {Q : Bool → Hp → Prop} (h : lfT X.K Z (dTst (dOp (gInD neg) fi fo)) σ H Q) : lft X.K Z (dOp (gInD neg) fi fo) σ H fun v H' => ∃ b, v = .bl b ∧ Q b H' := by
  obtain ⟨M, s, b, s', rl, hf, k⟩ := h
  exact ⟨M, s, .bool b, s', rl, dTst_some hf, fun v H' k1 r1 t1 => ⟨b, t1.bool, k H' k1 r1⟩⟩
theorem dtind (hu : X.A.units + 1 < cLine) (hi : PE X i (lft X.K Z fi)) (ho : PE X o (lft X.K Z fo)) (hm : behindInMarks .In o = false := by with_unfolding_all rfl) : PT X (.Compare i [.In] [o] pos) (lfT X.K Z (dTst (dOp (gInD false) fi fo))) := PTimp (pt_cmp (pc_din hu hi ho) hm) fun σ H Q h => by
  exact lift_ind (lift_indT h)
theorem dtnotind (hu : X.A.units + 1 < cLine) (hi : PE X i (lft X.K Z fi)) (ho : PE X o (lft X.K Z fo)) (hm : behindInMarks .NotIn o = false := by with_unfolding_all rfl) : PT X (.Compare i [.NotIn] [o] pos) (lfT X.K Z (dTst (dOp (gInD true) fi fo))) := PTimp (pt_cmp (pc_dnotin hu hi ho) hm) fun σ H Q h => by
  exact lift_ind (lift_indT h)
/-- d.get(k, x) -/
def dGet2 (fo fi fe : DE) : DE := fun s => (fo s).bind fun p => (fi p.2).bind fun q => (fe q.2).bind fun r => (lookD p.1 q.1).map fun o => (o.getD r.1, r.2)
theorem isD_of' {K : PySem.W.Frag} {mu : Addr → Prop} {H : Hp} {v : V} {d k : PyData} {o : Option PyData} (t : Dt K mu H v d) (e : lookD d k = some o) : ∃ a, v = .ref a ∧ IsD H a := by
  cases t with
  | dcT h n t => exact ⟨_, rfl, .inr ⟨_, .inl h⟩⟩
  | dct h n t => exact ⟨_, rfl, .inl ⟨_, .inl h⟩⟩
  | scr h t => simp [lookD, realD] at e
  | exc h n => simp [lookD, realD] at e
  | _ => cases e
theorem dget2 {apos cpos : Pos} (hu : X.A.units + 1 < cLine) (ho : PE X o (lft X.K Z fo)) (hi : PE X i (lft X.K Z fi)) (he : PE X e (lft X.K Z fe)) (m : M2 X o "get" apos i e cpos := by exact ⟨rfl, rfl, rfl, rfl⟩) : PE X (.Call (.Attribute o "get" apos) [i, e] [] cpos) (lft X.K Z (dGet2 fo fi fe)) := PEimp (pe_dget2 hu ho hi he m) fun σ H Q h => by
  obtain ⟨M, s, d, s', rl, hf, k⟩ := h
  unfold dGet2 at hf
  simp only [Option.bind_eq_some_iff, Option.map_eq_some_iff] at hf
  obtain ⟨⟨d1, s1⟩, h1, ⟨d2, s2⟩, h2, ⟨d3, s3⟩, h3, o', h4, h5⟩ := hf
  cases h5
  refine ⟨M, s, d1, s1, rl, h1, fun x H1 k1 r1 t1 => ?_⟩
  obtain ⟨a, rfl, hd⟩ := isD_of' t1 h4
  refine ⟨a, rfl, hd, M, s1, d2, s2, r1, h2, fun y H2 k2 r2 t2 => ⟨M, s2, d3, _, r2, h3, fun z H3 k3 r3 t3 => ?_⟩⟩
  obtain ⟨a', ov, ea, g, _, so⟩ := look_ok (t1.mono (k2.trans k3).kp) (t2.mono k3.kp) h4
  cases ea
  refine ⟨ov, g, ?_⟩
  cases o' with
  | none =>
    cases ov with
    | some v => exact so.elim
    | none => exact k _ H3 (k1.trans (k2.trans k3)) r3 t3
  | some d =>
    cases ov with
    | none => exact so.elim
    | some v => exact k _ H3 (k1.trans (k2.trans k3)) r3 so
end
/-! ### a name's own dict -/
section
variable {K : PySem.W.Frag} {Z : Par} {M M' : List Addr} {σ : L2.St} {H H' : Hp} {s s' : Sl} {p : Addr} {mu : Addr → Prop} {q : List Addr}
theorem SlAll.setDic {a : Addr} {c : Ct} (h1 : CtOk K mu H a c) {σ : L2.St} {s : Sl} {M : List Addr} (t : SlAll K mu q H σ s M) :
    ∀ (i : Nat), i < s.length → a ∉ M → ∃ M', (∀ b ∈ M', b ∈ M ∨ b = a) ∧ SlAll K mu q H (σ.set i (some (.ref a))) (s.set i (.dic c)) M' := by
  have top : ∀ {σ : L2.St} {s : Sl} {M0 M : List Addr}, SlAll K mu q H σ s M → a ∉ M0 → (∀ b ∈ M, b ∈ M0) → ∃ M', (∀ b ∈ M', b ∈ M0 ∨ b = a) ∧ SlAll K mu q H (some (.ref a) :: σ) (.dic c :: s) M' := fun t n sub =>
    ⟨_, fun b hb => (List.mem_cons.mp hb).elim .inr fun z => .inl (sub b z), .dic h1 (fun z => n (sub _ z)) t⟩
  induction t with
  | nil => intro i hi _; exact absurd hi (Nat.not_lt_zero _)
  | dat h t ih =>
    intro i hi n
    cases i with
    | zero => exact top t n fun _ h => h
    | succ i =>
      obtain ⟨M', a1, b1⟩ := ih i (by simpa using hi) n
      exact ⟨M', a1, .dat h b1⟩
  | no t ih =>
    intro i hi n
    cases i with
    | zero => exact top t n fun _ h => h
    | succ i =>
      obtain ⟨M', a1, b1⟩ := ih i (by simpa using hi) n
      exact ⟨M', a1, .no b1⟩
  | rf t ih =>
    intro i hi n
    cases i with
    | zero => exact top t n fun _ h => h
    | succ i =>
      obtain ⟨M', a1, b1⟩ := ih i (by simpa using hi) n
      exact ⟨M', a1, .rf b1⟩
  | pot e h d t ih =>
    intro i hi n
    cases i with
    | zero => exact top t n fun _ h => h
    | succ i =>
      obtain ⟨M', a1, b1⟩ := ih i (by simpa using hi) n
      exact ⟨M', a1, .pot e h d b1⟩
  | tab e h d f t ih =>
    intro i hi n
    cases i with
    | zero => exact top t n fun _ h => h
    | succ i =>
      obtain ⟨M', a1, b1⟩ := ih i (by simpa using hi) n
      exact ⟨M', a1, .tab e h d f b1⟩
  | @own c' ys es σ s M h d m t ih =>
    intro i hi n
    cases i with
    | zero => exact top t n fun _ h => List.mem_cons_of_mem _ h
    | succ i =>
      obtain ⟨M', a1, b1⟩ := ih i (by simpa using hi) (fun z => n (List.mem_cons_of_mem _ z))
      refine ⟨c' :: M', fun b hb => ?_, .own h d (fun z => (a1 _ z).elim m fun w => n (w ▸ List.mem_cons_self)) b1⟩
      rcases List.mem_cons.mp hb with z | z
      · exact .inl (z ▸ List.mem_cons_self)
      · exact (a1 b z).elim (fun w => .inl (List.mem_cons_of_mem _ w)) .inr
  | @dic c' ct σ s M h m t ih =>
    intro i hi n
    cases i with
    | zero => exact top t n fun _ h => List.mem_cons_of_mem _ h
    | succ i =>
      obtain ⟨M', a1, b1⟩ := ih i (by simpa using hi) (fun z => n (List.mem_cons_of_mem _ z))
      refine ⟨c' :: M', fun b hb => ?_, .dic h (fun z => (a1 _ z).elim m fun w => n (w ▸ List.mem_cons_self)) b1⟩
      rcases List.mem_cons.mp hb with z | z
      · exact .inl (z ▸ List.mem_cons_self)
      · exact (a1 b z).elim (fun w => .inl (List.mem_cons_of_mem _ w)) .inr
theorem Rel.dic (r : Rel K (Z.add p) M σ H s) (h0 : Z.H0 p = none) (hpp : p ∉ Z.p) (hm : ¬ Z.m0 p) {c : Ct} (h1 : CtOk K (Mu (Z.add p) M) H p c) (i : Nat) (hi : i < s.length) :
    ∃ M', Rel K Z M' (σ.set i (some (.ref p))) H (s.set i (.dic c)) ∧ ∀ b ∈ M', b ∈ M ∨ b = p := by
  have n : p ∉ M := fun z => (r.fr p z).2.2.1 (.inr rfl)
  obtain ⟨M', a, b⟩ := r.sl.setDic h1 i hi n
  have k : Kp (Mu (Z.add p) M) H (Mu Z M') H := fun c u e nn => ⟨e, fun q => nn (mu_add.mpr (by
    rcases q with q | q | q
    · exact .inl (.inl q)
    · exact .inl (.inr (.inl q))
    · exact (a c q).elim (fun w => .inl (.inr (.inr w))) .inr))⟩
  refine ⟨M', ⟨r.base, fun c hc => ?_, fun a h => r.mz a (.inl h), r.pt, b.kp k (M := M') (fun _ _ _ e => e) (fun _ _ _ e => e) (fun _ h => h)⟩, a⟩
  rcases a c hc with h | h
  · obtain ⟨h1, h2, h3, h4⟩ := r.fr c h
    exact ⟨h1, h2, fun q => h3 (.inl q), h4⟩
  · subst h
    obtain ⟨o, e, _⟩ := h1.there
    exact ⟨h0, hpp, hm, o, e⟩
theorem SlAll.wrDic {c' : Ct} {a : Addr} (hk : Kp mu H mu H') (hs : ∀ b o, H b = some o → b ≠ a → H' b = some o) (h1 : CtOk K mu H' a c') (hq : a ∉ q) {M : List Addr} (t : SlAll K mu q H σ s M) :
    ∀ (i : Nat) (c : Ct), s[i]? = some (.dic c) → σ[i]? = some (some (.ref a)) → SlAll K mu q H' σ (s.set i (.dic c')) M := by
  have rest : ∀ {σ : L2.St} {s : Sl} {M : List Addr}, a ∉ M → SlAll K mu q H σ s M → SlAll K mu q H' σ s M := fun {σ s M} n t =>
    t.kp hk (M := M) (fun b xs hb e => hs b _ e (fun z => n (z ▸ hb))) (fun b xs hb e => hs b _ e (fun z => hq (z ▸ hb))) (fun _ h => h)
  induction t with
  | nil => intro i ds e; simp at e
  | dat h t ih =>
    intro i ds e f
    cases i with
    | zero => simp at e
    | succ i => exact .dat (h.mono hk) (ih i ds (by simpa using e) (by simpa using f))
  | no t ih =>
    intro i ds e f
    cases i with
    | zero => simp at e
    | succ i => exact .no (ih i ds (by simpa using e) (by simpa using f))
  | rf t ih =>
    intro i ds e f
    cases i with
    | zero => simp at e
    | succ i => exact .rf (ih i ds (by simpa using e) (by simpa using f))
  | pot e0 h d t ih =>
    intro i ds e f
    cases i with
    | zero => simp at e
    | succ i => exact .pot e0 (hs _ _ h (fun z => hq (z ▸ List.mem_of_getElem? e0))) (d.mono hk) (ih i ds (by simpa using e) (by simpa using f))
  | tab e0 h d w t ih =>
    intro i ds e f
    cases i with
    | zero => simp at e
    | succ i => exact .tab e0 (hs _ _ h (fun z => hq (z ▸ List.mem_of_getElem? e0))) d (fun pos cv z => let ⟨c, g1, g2, g3⟩ := w pos cv z; ⟨c, g1, (hk _ _ g2 g3).1, (hk _ _ g2 g3).2⟩) (ih i ds (by simpa using e) (by simpa using f))
  | @own c ys es σ s M h d m t ih =>
    intro i ds e f
    cases i with
    | zero => simp at e
    | succ i =>
      have nc : c ≠ a := fun z => by
        subst z
        obtain ⟨b, g1, g2, _⟩ := t.getDic (i := i) (by simpa using e)
        have : σ[i]? = some (some (.ref c)) := by simpa using f
        rw [this] at g1
        simp only [Option.some.injEq, V.ref.injEq] at g1
        exact m (g1 ▸ g2)
      exact .own (hs _ _ h nc) (d.mono hk) m (ih i ds (by simpa using e) (by simpa using f))
  | @dic c ct σ s M h m t ih =>
    intro i ds e f
    cases i with
    | zero =>
      simp at f
      subst f
      exact .dic h1 m (rest m t)
    | succ i =>
      have nc : c ≠ a := fun z => by
        subst z
        obtain ⟨b, g1, g2, _⟩ := t.getDic (i := i) (by simpa using e)
        have : σ[i]? = some (some (.ref c)) := by simpa using f
        rw [this] at g1
        simp only [Option.some.injEq, V.ref.injEq] at g1
        exact m (g1 ▸ g2)
      exact .dic (h.mono hk fun o e => hs _ _ e nc) m (ih i ds (by simpa using e) (by simpa using f))
theorem Rel.atD (r : Rel K Z M σ H s) {i : Nat} {c : Ct} (h : s[i]? = some (.dic c)) : ∃ a, σ[i]? = some (some (.ref a)) ∧ CtOk K (Mu Z M) H a c ∧ Mu Z M a ∧
    ∀ H' c', CtOk K (Mu Z M) H' a c' → (∀ b o, H b = some o → b ≠ a → H' b = some o) → Rel K Z M σ H' (s.set i (.dic c')) ∧ Kq Z M H M H' := by
  obtain ⟨a, h1, h2, h3⟩ := r.sl.getDic h
  have hmu : Mu Z M a := .inr (.inr h2)
  refine ⟨a, h1, h3, hmu, fun H' c' e1 e2 => ?_⟩
  have k : Kp (Mu Z M) H (Mu Z M) H' := fun b o e n => ⟨e2 b o e (fun z => n (z ▸ hmu)), n⟩
  obtain ⟨oa, eoa, _⟩ := e1.there
  have ex : ∀ b o, H b = some o → ∃ u, H' b = some u := fun b o e => by
    by_cases z : b = a
    · rw [z]; exact ⟨_, eoa⟩
    · exact ⟨o, e2 b o e z⟩
  refine ⟨⟨fun b o e n => e2 b o (r.base b o e n) (fun z => ?_), fun b hb => let ⟨f1, f2, f3, u, f4⟩ := r.fr b hb; ⟨f1, f2, f3, ex b u f4⟩, fun b hb => let ⟨u, f⟩ := r.mz b hb; ex b u f, fun b hb => let ⟨u, f⟩ := r.pt b hb; ex b u f, ?_⟩, fun b o e _ n => ⟨e2 b o e (fun z => n (z ▸ h2)), n⟩⟩
  · rw [z, (r.fr a h2).1] at e; cases e
  · exact r.sl.wrDic k e2 e1 (r.fr a h2).2.1 i c h h1
end

/-- x = {} -/
def sNewD (i : Nat) (c : Ct) : DS := fun s => if i < s.length then some (.nx (s.set i (.dic c))) else none
/-- x[k] = v, x a dict of one's own -/
def putC (c : Ct) (k d : PyData) : Option Ct := match c with
  | .kT ds => if ds.length < sizeLine then (keyT k).map fun kk => .kT (putL ds kk d) else none
  | .kK ds => if ds.length < sizeLine then (kOf k).map fun kk => .kK (putF ds kk d) else none
def dicAt (s : Sl) (i : Nat) : Option Ct := match s[i]? with
  | some (.dic c) => some c
  | _ => none
theorem dicAt_eq {s : Sl} {i : Nat} {c : Ct} (h : dicAt s i = some c) : s[i]? = some (.dic c) := by
  unfold dicAt at h
  split at h
  · cases h; assumption
  · cases h
def sPutD (i : Nat) (fv fk : DE) : DS := fun s => (fv s).bind fun p => (dicAt p.2 i).bind fun _ => (fk p.2).bind fun q => (dicAt q.2 i).bind fun c => (putC c q.1 p.1).map fun c' => .nx (q.2.set i (.dic c'))
def ctD : Ct → PyData
  | .kT ds => .dict ((.none, .none) :: kvD ds)
  | .kK ds => .dict ds
/-- a name's own dict is data from here on -/
def sFrzD (i : Nat) : DS := fun s => (dicAt s i).map fun c => .nx (s.set i (.dat (ctD c)))
section
variable {X : Cx} {Z : Par} {a b e c : Expr} {pos : Pos} {fv fk : DE} {sts : List Stmt} {g : DS}
theorem newD_lift {i : Nat} {ct : Ct} {o : HO} {D : Ends} {σ : L2.St} {H : Hp} (h : lfS X.K Z (sNewD i ct) D σ H) (hc : ∀ mu H p, H p = some o → CtOk X.K mu H p ct) : ∀ p, H p = none → D.nx (σ.set i (some (.ref p))) (upd H p o) := fun p hp => by
  obtain ⟨M, s, fl, rl, h1, k⟩ := h
  unfold sNewD at h1
  split at h1
  case isFalse => cases h1
  rename_i hlt
  cases h1
  have npp : p ∉ Z.p := fun z => by
    obtain ⟨o, e⟩ := rl.pt p z
    rw [hp] at e; cases e
  have n0 : Z.H0 p = none := by
    cases q : Z.H0 p with
    | none => rfl
    | some o =>
      have := rl.base p o q npp
      rw [hp] at this; cases this
  have nm : ¬ Z.m0 p := fun z => by
    obtain ⟨o, e⟩ := rl.mz p z
    rw [hp] at e; cases e
  have r1 := rl.addNew hp o
  obtain ⟨M', r2, k2⟩ := r1.dic n0 npp nm (hc _ _ p upd_same) i hlt
  exact k M' _ _ (fun c u e n1 n2 => ⟨grow_new hp c u e, fun z => (k2 c z).elim n2 (ne_of_none e hp)⟩) r2
theorem snewT {i : Nat} {x : Str} {pos' p2 : Pos} (hN : X.N.Nodup) (hi : X.N[i]? = some x) (hx : Loc X.env.scope x) (hs : swapsWith (.Dict [] [] p2) (some (.Name x pos')) pos.line X.env = pure false := by rfl)
    (hf : X.fn x = true ∨ X.env.scope.names.lookup x = some .local := by first | exact .inl rfl | exact .inr rfl | assumption) : PS X (.Assign [.Name x pos'] (.Dict [] [] p2) pos) (lfS X.K Z (sNewD i (.kT []))) := PSimp (ps_set hN hi hx pe_dnewT hs hf) fun D σ H h =>
  newD_lift h fun mu H p e => ⟨[], e, .nil⟩
theorem snewK {i : Nat} {x : Str} {pos' p2 : Pos} (hN : X.N.Nodup) (hi : X.N[i]? = some x) (hx : Loc X.env.scope x) (hs : swapsWith (.Dict [] [] p2) (some (.Name x pos')) pos.line X.env = pure false := by rfl)
    (hf : X.fn x = true ∨ X.env.scope.names.lookup x = some .local := by first | exact .inl rfl | exact .inr rfl | assumption) : PS X (.Assign [.Name x pos'] (.Dict [] [] p2) pos) (lfS X.K Z (sNewD i (.kK []))) := PSimp (ps_set hN hi hx pe_dnewK hs hf) fun D σ H h =>
  newD_lift h fun mu H p e => ⟨[], e, .nil⟩
theorem sputD (i : Nat) {pos' : Pos} (hu : X.A.units + 1 < cLine) (hv : PE X e (lft X.K Z fv)) (ha : PE X a (tVar i)) (hk : PE X c (lft X.K Z fk)) (hs : swapsWith e (some (.Subscript a c pos')) pos.line X.env = pure false := by rfl) :
    PS X (.Assign [.Subscript a c pos'] e pos) (lfS X.K Z (sPutD i fv fk)) := PSimp (ps_dput hu ha hk hv hs) fun D σ H h => by
  obtain ⟨M, s, fl, rl, hf, k⟩ := h
  unfold sPutD at hf
  simp only [Option.bind_eq_some_iff, Option.map_eq_some_iff] at hf
  obtain ⟨⟨d1, s1⟩, h1, c0, h2, ⟨d2, s2⟩, h3, c1, h4, c2, h5, h6⟩ := hf
  cases h6
  refine ⟨M, s, d1, s1, rl, h1, fun v H1 k1 r1 t1 => ?_⟩
  obtain ⟨a0, g1, _⟩ := r1.atD (dicAt_eq h2)
  refine ⟨.ref a0, g1, M, s1, d2, s2, r1, h3, fun y H2 k2 r2 t2 => ?_⟩
  obtain ⟨a1, g2, ct, mua, up⟩ := r2.atD (dicAt_eq h4)
  rw [g1] at g2
  cases g2
  have t1' := t1.mono k2.kp
  unfold putC at h5
  split at h5
  · split at h5
    · rename_i ds few
      simp only [Option.map_eq_some_iff] at h5
      obtain ⟨kk, e1, rfl⟩ := h5
      obtain ⟨kvs, e2, t⟩ := ct
      obtain ⟨b, rfl, hb⟩ := t2.keyT e1
      have kp : Kp (Mu Z M) H2 (Mu Z M) (upd H2 a0 (.dT (putK kvs kk v))) := fun b o e n => ⟨upd_lst b o e (fun z => n (by subst z; assumption)), n⟩
      obtain ⟨r3, k3⟩ := up (upd H2 a0 (.dT (putK kvs kk v))) (.kT (putL ds kk d1)) ⟨_, upd_same, (t.put kk t1').mono kp⟩ upd_lst
      exact ⟨a0, _, rfl, DPut.t e2 hb (by rw [t.len]; exact few), k M σ _ (k1.trans (k2.trans k3)) r3⟩
    · cases h5
  · split at h5
    · rename_i ds few
      simp only [Option.map_eq_some_iff] at h5
      obtain ⟨kk, e1, rfl⟩ := h5
      obtain ⟨kvs, e2, t⟩ := ct
      obtain rfl := t2.keyF e1
      have kp : Kp (Mu Z M) H2 (Mu Z M) (upd H2 a0 (.dK (putK kvs kk v))) := fun b o e n => ⟨upd_lst b o e (fun z => n (by subst z; assumption)), n⟩
      obtain ⟨r3, k3⟩ := up (upd H2 a0 (.dK (putK kvs kk v))) (.kK (putF ds kk d1)) ⟨_, upd_same, (t.put kk t1').mono kp⟩ upd_lst
      exact ⟨a0, _, rfl, DPut.k e2 (by rw [t.len]; exact few), k M σ _ (k1.trans (k2.trans k3)) r3⟩
    · cases h5
theorem CtOk.dt {K : PySem.W.Frag} {mu : Addr → Prop} {H : Hp} {a : Addr} {c : Ct} (h : CtOk K mu H a c) (n : ¬ mu a) : Dt K mu H (.ref a) (ctD c) := by
  cases c with
  | kT ds =>
    obtain ⟨kvs, e, t⟩ := h
    exact .dcT e n t
  | kK ds =>
    obtain ⟨kvs, e, t⟩ := h
    exact .dct e n t
theorem SlAll.frzD {K : PySem.W.Frag} {mu : Addr → Prop} {q : List Addr} {H : Hp} {ct : Ct} {σ : L2.St} {s : Sl} {M : List Addr} (t : SlAll K mu q H σ s M) : ∀ (i : Nat), s[i]? = some (.dic ct) →
    ∃ a M', σ[i]? = some (some (.ref a)) ∧ CtOk K mu H a ct ∧ a ∈ M ∧ a ∉ M' ∧ (∀ b ∈ M', b ∈ M) ∧ (∀ mu', (∀ b, mu' b → mu b) → ¬ mu' a → SlAll K mu' q H σ (s.set i (.dat (ctD ct))) M') := by
  induction t with
  | nil => intro i e; simp at e
  | dat h t ih =>
    intro i e
    cases i with
    | zero => simp at e
    | succ i =>
      obtain ⟨a, M', h1, h2, h4, h5, h6, h7⟩ := ih i (by simpa using e)
      exact ⟨a, M', by simpa using h1, h2, h4, h5, h6, fun mu' hs hn => .dat (h.mono fun c u e nn => ⟨e, fun z => nn (hs c z)⟩) (h7 mu' hs hn)⟩
  | no t ih =>
    intro i e
    cases i with
    | zero => simp at e
    | succ i =>
      obtain ⟨a, M', h1, h2, h4, h5, h6, h7⟩ := ih i (by simpa using e)
      exact ⟨a, M', by simpa using h1, h2, h4, h5, h6, fun mu' hs hn => .no (h7 mu' hs hn)⟩
  | rf t ih =>
    intro i e
    cases i with
    | zero => simp at e
    | succ i =>
      obtain ⟨a, M', h1, h2, h4, h5, h6, h7⟩ := ih i (by simpa using e)
      exact ⟨a, M', by simpa using h1, h2, h4, h5, h6, fun mu' hs hn => .rf (h7 mu' hs hn)⟩
  | pot e1 h d t ih =>
    intro i e
    cases i with
    | zero => simp at e
    | succ i =>
      obtain ⟨a, M', h1, h2, h4, h5, h6, h7⟩ := ih i (by simpa using e)
      exact ⟨a, M', by simpa using h1, h2, h4, h5, h6, fun mu' hs hn => .pot e1 h (d.mono fun c u e nn => ⟨e, fun z => nn (hs c z)⟩) (h7 mu' hs hn)⟩
  | tab e1 h d f t ih =>
    intro i e
    cases i with
    | zero => simp at e
    | succ i =>
      obtain ⟨a, M', h1, h2, h4, h5, h6, h7⟩ := ih i (by simpa using e)
      exact ⟨a, M', by simpa using h1, h2, h4, h5, h6, fun mu' hs hn => .tab e1 h d (fun pos cv z => let ⟨c, g1, g2, g3⟩ := f pos cv z; ⟨c, g1, g2, fun w => g3 (hs c w)⟩) (h7 mu' hs hn)⟩
  | @own c ys es σ s M h d n t ih =>
    intro i e
    cases i with
    | zero => simp at e
    | succ i =>
      obtain ⟨a, M', h1, h2, h4, h5, h6, h7⟩ := ih i (by simpa using e)
      refine ⟨a, c :: M', by simpa using h1, h2, List.mem_cons_of_mem _ h4, fun z => (List.mem_cons.mp z).elim (fun w => n (w ▸ h4)) h5, fun b hb => (List.mem_cons.mp hb).elim (fun w => w ▸ List.mem_cons_self) fun w => List.mem_cons_of_mem _ (h6 b w), fun mu' hs hn => ?_⟩
      exact .own h (d.mono fun c u e nn => ⟨e, fun z => nn (hs c z)⟩) (fun z => n (h6 c z)) (h7 mu' hs hn)
  | @dic c ct' σ s M h n t ih =>
    intro i e
    cases i with
    | zero =>
      simp at e
      subst e
      refine ⟨c, M, rfl, h, List.mem_cons_self, n, fun b hb => List.mem_cons_of_mem _ hb, fun mu' hs hn => ?_⟩
      have k : Kp mu H mu' H := fun c u e nn => ⟨e, fun z => nn (hs c z)⟩
      exact .dat ((h.mono k fun _ e => e).dt hn) (t.kp k (fun _ _ _ e => e) (fun _ _ _ e => e) (fun _ h => h))
    | succ i =>
      obtain ⟨a, M', h1, h2, h4, h5, h6, h7⟩ := ih i (by simpa using e)
      refine ⟨a, c :: M', by simpa using h1, h2, List.mem_cons_of_mem _ h4, fun z => (List.mem_cons.mp z).elim (fun w => n (w ▸ h4)) h5, fun b hb => (List.mem_cons.mp hb).elim (fun w => w ▸ List.mem_cons_self) fun w => List.mem_cons_of_mem _ (h6 b w), fun mu' hs hn => ?_⟩
      exact .dic (h.mono (fun c u e nn => ⟨e, fun z => nn (hs c z)⟩) fun _ e => e) (fun z => n (h6 c z)) (h7 mu' hs hn)
theorem sfrzD {i : Nat} (h : PSs X sts (lfS X.K Z g)) : PSs X sts (lfS X.K Z (sSeq (sFrzD i) g)) := PSsimp h fun D σ H h => by
  obtain ⟨M, s, fl, rl, h1, k⟩ := h
  unfold sSeq sFrzD at h1
  simp only [Option.bind_eq_some_iff, Option.map_eq_some_iff] at h1
  obtain ⟨fl1, ⟨ct, h1, rfl⟩, h2⟩ := h1
  obtain ⟨a, M', g1, g2, g4, g5, g6, g7⟩ := rl.sl.frzD i (dicAt_eq h1)
  have sub : ∀ b, Mu Z M' b → Mu Z M b := fun b hb => by
    rcases hb with hb | hb | hb
    · exact .inl hb
    · exact .inr (.inl hb)
    · exact .inr (.inr (g6 b hb))
  have na : ¬ Mu Z M' a := fun hb => by
    rcases hb with hb | hb | hb
    · exact (rl.fr a g4).2.2.1 hb
    · exact (rl.fr a g4).2.1 hb
    · exact g5 hb
  have kk : Kq Z M H M' H := fun c u e _ nn => ⟨e, fun z => nn (g6 c z)⟩
  exact ⟨M', _, fl, ⟨rl.base, fun b hb => rl.fr b (g6 b hb), rl.mz, rl.pt, g7 _ sub na⟩, h2, k.mono kk⟩
end
/-! rules from the outside in -/
section
variable {N : Sl → Prop} {R : PyData → Sl → Prop} {s : Sl} {i : Nat} {fv fk fo fi fe : DE} {c c0 : Ct} {Q : PyData → Sl → Prop}
theorem s_newD (h : i < s.length) (k : N (s.set i (.dic c))) : Gs (sNewD i c s) N R := ⟨.inl ⟨_, by unfold sNewD; rw [if_pos h], k⟩⟩
theorem s_putD (h : Ge (fv s) fun d s1 => ∃ c0, dicAt s1 i = some c0 ∧ Ge (fk s1) fun k s2 => ∃ c, dicAt s2 i = some c ∧ Gd (putC c k d) fun c' => N (s2.set i (.dic c'))) : Gs (sPutD i fv fk s) N R := by
  obtain ⟨d, s1, e1, c0, e2, k, s2, e3, c, e4, c', e5, q⟩ := h
  exact ⟨.inl ⟨_, by unfold sPutD; rw [e1, Option.bind_some, e2, Option.bind_some, e3, Option.bind_some, e4, Option.bind_some, e5]; rfl, q⟩⟩
theorem s_frzD (h : dicAt s i = some c) (k : N (s.set i (.dat (ctD c)))) : Gs (sFrzD i s) N R := ⟨.inl ⟨_, by unfold sFrzD; rw [h]; rfl, k⟩⟩
theorem e_get2 (h : Ge (fo s) fun d s1 => Ge (fi s1) fun k s2 => Ge (fe s2) fun x s3 => Gd (lookD d k) fun o => Q (o.getD x) s3) : Ge (dGet2 fo fi fe s) Q := by
  obtain ⟨d, s1, e1, k, s2, e2, x, s3, e3, o, e4, q⟩ := h
  exact ⟨_, s3, by unfold dGet2; rw [e1, Option.bind_some, e2, Option.bind_some, e3, Option.bind_some, e4]; rfl, q⟩
end
end Dl

namespace Dl
open PySem PySem.Spec PyProof.Rows L2
/-! ### repr, with dicts by tuples among the parts -/
/-- as it is shown -/
def unM : PyData → PyData
  | .dict ((.none, .none) :: r) => .dict r
  | d => d
/-- what may be shown: data, or a dict by tuples of data -/
def realM : PyData → Bool
  | .dict ((.none, .none) :: r) => (unT r).isSome && realAlls (r.map (·.2))
  | d => realAll d
section
variable {X : Cx} {pins : List (Addr × Obj)} {σ : L2.St} {H : Hp} {s : Shared} {mu : Addr → Prop}
theorem reads_keys {ks : List Key} {us : List Value} (r : Vals (ks.map kV) us) : ReadsAll s.heap us (ks.map kD) [] := by
  induction ks generalizing us with
  | nil => cases r; exact .nil
  | cons k ks ih =>
    rw [List.map_cons] at r
    cases r with
    | cons h t =>
      rw [List.map_cons]
      cases k with
      | inl i => obtain ⟨t', rfl⟩ := (show ∃ t, _ = Value.int i t from h); exact .cons (as := []) (.int i t') (ih t)
      | inr x => obtain ⟨t', rfl⟩ := (show ∃ t, _ = Value.str x t from h); exact .cons (as := []) (.str x t') (ih t)
theorem readsKT_of (I : Inv X pins σ H s) (c : CG X) {knd : HeapKind X.prog X.w (List Key)} : ∀ {kvs : List (List Key × V)} {xs : List (List Key × Addr × Value)} {ds : List (List Key × PyData)}, DtKT X.K mu H kvs ds →
    Paired (fun (p : List Key × V) (q : List Key × Addr × Value) => p.1 = q.1 ∧ H q.2.1 = some (.tup (p.1.map kV)) ∧ RelV p.2 q.2.2) kvs xs → realAlls (ds.map (·.2)) = true →
    ∃ bs, ReadsAll s.heap ((xs.map (entryOfKey knd)).map (·.key)) ((kvD ds).map (·.1)) [] ∧ ReadsAll s.heap ((xs.map (entryOfKey knd)).map (·.val)) ((kvD ds).map (·.2)) bs ∧ sysModules ∉ bs
  | _, _, _, .nil, r, _ => by cases r; exact ⟨[], .nil, .nil, by simp⟩
  | _, _, _, .cons (k := k) (d := d) (ds := dr) h t, .cons (b := q) r1 r2, g => by
    obtain ⟨k', b, u⟩ := q
    obtain ⟨e1, e2, e3⟩ := r1
    have g' : realAll d = true ∧ realAlls (dr.map (·.2)) = true := by
      rw [List.map_cons, realAlls, Bool.and_eq_true] at g; exact g
    obtain ⟨bs, h1, h2, h3⟩ := readsKT_of I c (knd := knd) t r2 g'.2
    obtain ⟨cs, h4, h5⟩ := reads_of I c h e3 g'.1
    obtain ⟨its, rk, ⟨o, q1, q2, n, q3⟩, _⟩ := I.tuple (.inl (.inl e2))
    refine ⟨cs ++ bs, ?_, ?_, by simp [h5, h3]⟩
    · exact .cons (as := []) (.tuple q1 q2 q3 (by simpa using reads_keys rk)) h1
    · exact .cons h4 h2
theorem unM_kv {K : PySem.W.Frag} {kvs : List (Key × V)} {ds : List (PyData × PyData)} (t : DtKv K mu H kvs ds) : unM (.dict ds) = .dict ds ∧ realM (.dict ds) = realAll (.dict ds) := by
  cases t with
  | nil => exact ⟨rfl, rfl⟩
  | cons h t =>
    rename_i k v vs d ds
    cases k <;> exact ⟨rfl, rfl⟩
theorem reads1_of (I : Inv X pins σ H s) (c : CG X) {v : V} {u : Value} {d : PyData} (t : Dt X.K mu H v d) (r : RelV v u) (g : realM d = true) : ∃ as, Reads s.heap u (unM d) as ∧ sysModules ∉ as := by
  cases t with
  | dcT h n t =>
    rename_i a kvs ds
    cases r
    have g' : realAlls (ds.map (·.2)) = true := by
      have : ((unT (kvD ds)).isSome && realAlls ((kvD ds).map (·.2))) = true := g
      rw [Bool.and_eq_true] at this
      have e : (kvD ds).map (·.2) = ds.map (·.2) := by unfold kvD; rw [List.map_map]; rfl
      rw [← e]; exact this.2
    obtain ⟨z, ns, xs, kv, o, es, ep, q1, q2, q3, q4, q5⟩ := I.hok _ _ h
    obtain ⟨bs, h1, h2, h3⟩ := readsKT_of I c t kv g'
    rw [← q4] at h1 h2
    refine ⟨_, .dict q1 q2.1 q3 h1 h2, ?_⟩
    have no : sysModules ≠ a := fun e => (by rw [← e] at ns; simp at ns)
    simp [h3, no]
  | dct h n t =>
    rw [(unM_kv t).1]
    exact reads_of I c (.dct h n t) r ((unM_kv t).2 ▸ g)
  | scr h t => exact absurd g (by simp [realM, realAll, realKvs])
  | exc h n => exact absurd g (by simp [realM, realAll, realKvs])
  | non => exact reads_of (mu := mu) I c .non r g
  | bl b => exact reads_of (mu := mu) I c (.bl b) r g
  | int i => exact reads_of (mu := mu) I c (.int i) r g
  | str x => exact reads_of (mu := mu) I c (.str x) r g
  | lst h n t => exact reads_of I c (.lst h n t) r g
  | tup h n t => exact reads_of I c (.tup h n t) r g
  | tupK h z t => exact reads_of I c (.tupK h z t) r g
theorem readsM_of (I : Inv X pins σ H s) (c : CG X) : ∀ {vs : List V} {us : List Value} {ds : List PyData}, DtAll X.K mu H vs ds → Vals vs us → ds.all realM = true → ∃ as, ReadsAll s.heap us (ds.map unM) as ∧ sysModules ∉ as
  | _, _, _, .nil, r, _ => by cases r; exact ⟨[], .nil, by simp⟩
  | _, _, _, .cons h t, .cons r1 r2, g => by
    rw [List.all_cons, Bool.and_eq_true] at g
    obtain ⟨as, h1, h2⟩ := reads1_of I c h r1 g.1
    obtain ⟨bs, h3, h4⟩ := readsM_of I c t r2 g.2
    exact ⟨as ++ bs, .cons h1 h3, by simp [h2, h4]⟩
end
/-- the text of a tuple some of whose items may be dicts by tuples -/
def gReprT : List PyData → Option PyData
  | [.tuple ds] => if (((PyData.tuple (ds.map unM)).showable && ds.all realM) && (decide ((PyData.tuple (ds.map unM)).shown.length ≤ sizeLine) && decide ((PyData.tuple (ds.map unM)).depth ≤ 60))) = true then some (.str (PyData.tuple (ds.map unM)).shown) else none
  | _ => none
def rReprT (K : PySem.W.Frag) : List V → Hp → VK → Prop := fun xs H Q => ∃ mu ds, DtAll K mu H xs [.tuple ds] ∧ (((PyData.tuple (ds.map unM)).showable && ds.all realM) && (decide ((PyData.tuple (ds.map unM)).shown.length ≤ sizeLine) && decide ((PyData.tuple (ds.map unM)).depth ≤ 60))) = true ∧ Q (.str (PyData.tuple (ds.map unM)).shown) H
theorem call_reprT {X : Cx} (c : CG X) : CallR X (.builtin "repr") (rReprT X.K) := by
  rintro pins s σ H xs us Q I r ⟨mu, ds, t, g, q⟩
  simp only [Bool.and_eq_true, decide_eq_true_eq] at g
  obtain ⟨⟨g1, g2⟩, g3, g4⟩ := g
  cases t with
  | cons h t =>
  cases t
  cases r with
  | cons r1 r2 =>
  cases r2
  obtain ⟨a, ys, rfl, hq, u⟩ := h.tuple
  cases r1
  obtain ⟨its, rv, ⟨o, q1, q2, n, q3⟩, _⟩ := I.tuple hq
  obtain ⟨as, h1, h2⟩ := readsM_of I c u rv g2
  have rd : Reads s.heap (.ref a) (.tuple (ds.map unM)) as := .tuple q1 q2 q3 (by simpa using h1)
  exact repr_of_reads' rd g1 (fun _ => h2) c.gd (by have := c.un; omega) (fun _ _ e => e) (fun h' u tk hk => ⟨.str (PyData.tuple (ds.map unM)).shown, H, I.kept hk, ⟨_, rfl⟩, q⟩) g3
theorem ok_reprT {K : PySem.W.Frag} : CallOk K (rReprT K) gReprT := fun mu H xs ds d Q _ t e k => by
  unfold gReprT at e
  split at e
  · split at e
    case isFalse => cases e
    rename_i hg
    cases e
    exact ⟨mu, _, t, hg, k _ H (fun _ _ z => z) (.str _)⟩
  · cases e
/-! ### dict(..) of pairs -/
def pairsOf : List PyData → Option (List (Key × PyData))
  | [] => some []
  | .tuple [k, d] :: r => (kOf k).bind fun kk => (pairsOf r).map ((kk, d) :: ·)
  | _ => none
def mergeF (ds : List (PyData × PyData)) (more : List (Key × PyData)) : List (PyData × PyData) := more.foldl (fun acc p => putF acc p.1 p.2) ds
def gDictP : List PyData → Option PyData
  | [.list ds] => (pairsOf ds).map fun ps => .dict (mergeF [] ps)
  | _ => none
section
variable {K : PySem.W.Frag} {mu : Addr → Prop} {H : Hp}
theorem pairs_ok : ∀ {xs : List V} {ds : List PyData} {prs : List (Key × PyData)}, DtAll K mu H xs ds → pairsOf ds = some prs →
    ∃ (ps : List Addr) (kvs : List (Key × V)), xs = ps.map V.ref ∧ Paired (fun p kv => SqT K H p [kV kv.1, kv.2]) ps kvs ∧ DtKv K mu H kvs (prs.map fun p => (kD p.1, p.2))
  | _, [], _, .nil, e => by cases e; exact ⟨[], [], rfl, .nil, .nil⟩
  | _, d :: r, prs, .cons h t, e => by
    unfold pairsOf at e
    split at e
    · rename_i q; cases q
    · rename_i k d' r' q
      cases q
      simp only [Option.bind_eq_some_iff, Option.map_eq_some_iff] at e
      obtain ⟨kk, e1, prs', e2, rfl⟩ := e
      obtain ⟨ps, kvs, rfl, pr, dk⟩ := pairs_ok t e2
      obtain ⟨a, ys, rfl, hq, u⟩ := h.tuple
      cases u with
      | cons u1 u2 =>
      cases u2 with
      | cons u3 u4 =>
      cases u4
      obtain rfl := u1.keyF e1
      exact ⟨a :: ps, (kk, _) :: kvs, rfl, .cons hq pr, .cons u3 dk⟩
    · cases e
theorem merge_ok : ∀ {kvs : List (Key × V)} {prs : List (Key × PyData)} {acc : List (Key × V)} {dacc : List (PyData × PyData)}, DtKv K mu H kvs (prs.map fun p => (kD p.1, p.2)) → DtKv K mu H acc dacc → DtKv K mu H (mergeK acc kvs) (mergeF dacc prs)
  | [], [], _, _, .nil, h => h
  | (k, v) :: kvs, (k2, d) :: prs, acc, dacc, t, h => by
    rw [List.map_cons] at t
    have hk : k = k2 ∧ Dt K mu H v d ∧ DtKv K mu H kvs (prs.map fun p => (kD p.1, p.2)) := by
      generalize e : (kD k2, d) = p at t
      cases t with
      | cons h1 h2 =>
        have e1 := congrArg Prod.fst e
        have e2 := congrArg Prod.snd e
        dsimp only at e1 e2
        subst e2
        have := kOf_kD k2
        rw [e1, kOf_kD] at this
        exact ⟨Option.some.inj this, h1, h2⟩
    obtain ⟨rfl, h1, h2⟩ := hk
    show DtKv K mu H (mergeK (putK acc k v) kvs) (mergeF (putF dacc k d) prs)
    exact merge_ok h2 (h.put k h1)
theorem ok_dictP : CallOk K (fun xs H Q => ∃ (a : Addr) (ps : List Addr) (kvs : List (Key × V)), xs = [.ref a] ∧ SqL K H a (ps.map V.ref) ∧ Paired (fun p kv => SqT K H p [kV kv.1, kv.2]) ps kvs ∧ ∀ p, H p = none → Q (.ref p) (upd H p (.dK (mergeK [] kvs)))) gDictP := fun mu H xs ds d Q hm t e k => by
  unfold gDictP at e
  split at e
  · simp only [Option.map_eq_some_iff] at e
    obtain ⟨prs, e1, rfl⟩ := e
    obtain ⟨x, rfl, t1⟩ := one_of t
    obtain ⟨a, ys, rfl, hq, u⟩ := t1.list
    obtain ⟨ps, kvs, rfl, pr, dk⟩ := pairs_ok u e1
    refine ⟨a, ps, kvs, rfl, hq, pr, fun p hp => k _ _ (grow_new hp) ?_⟩
    exact .dct upd_same (nomu_new hm hp) ((merge_ok dk .nil).mono (kp_grow (grow_new hp)))
  · cases e
end

/-! ### dicts that are written out -/
def lfE (K : PySem.W.Frag) (f : DE) : TE := fun σ H Q => ∃ Z, lft K Z f σ H Q
theorem pe_E {X : Cx} {e : Expr} {f : DE} (h : ∀ Z, PE X e (lft X.K Z f)) : PE X e (lfE X.K f) := ⟨fun pins s σ H Q I ⟨Z, q⟩ => (h Z).run pins s σ H Q I q⟩
def runP : List (DE × DE) → Sl → Option (List (PyData × PyData) × Sl)
  | [], s => some ([], s)
  | (f, g) :: r, s => (f s).bind fun p => (g p.2).bind fun q => (runP r q.2).map fun w => ((p.1, q.1) :: w.1, w.2)
inductive DtP (K : PySem.W.Frag) (mu : Addr → Prop) (H : Hp) : List (V × V) → List (PyData × PyData) → Prop
  | nil : DtP K mu H [] []
  | cons {x y : V} {a b : PyData} {ps : List (V × V)} {ds : List (PyData × PyData)} : Dt K mu H x a → Dt K mu H y b → DtP K mu H ps ds → DtP K mu H ((x, y) :: ps) ((a, b) :: ds)
theorem lift_pairs {K : PySem.W.Frag} {Z : Par} {M : List Addr} {σ : L2.St} : ∀ (fs : List (DE × DE)) {H : Hp} {s s' : Sl} {prs : List (PyData × PyData)} {Q : List (V × V) → Hp → Prop}, Rel K Z M σ H s → runP fs s = some (prs, s') →
    (∀ ps H', Kq Z M H M H' → Rel K Z M σ H' s' → DtP K (Mu Z M) H' ps prs → Q ps H') → tPairs (fs.map fun p => (lfE K p.1, lfE K p.2)) σ H Q
  | [], H, s, s', prs, Q, rl, e, k => by cases e; exact k [] H (Kq.refl _ _ _) rl .nil
  | (f, g) :: r, H, s, s', prs, Q, rl, e, k => by
    unfold runP at e
    simp only [Option.bind_eq_some_iff, Option.map_eq_some_iff] at e
    obtain ⟨⟨d1, s1⟩, e1, ⟨d2, s2⟩, e2, ⟨ws, s3⟩, e3, e4⟩ := e
    cases e4
    refine ⟨Z, M, s, d1, s1, rl, e1, fun x H1 k1 r1 t1 => ⟨Z, M, s1, d2, s2, r1, e2, fun y H2 k2 r2 t2 => ?_⟩⟩
    exact lift_pairs r r2 e3 fun ps H3 k3 r3 t3 => k _ H3 (k1.trans (k2.trans k3)) r3 (.cons (t1.mono (k2.trans k3).kp) (t2.mono k3.kp) t3)
def flatPs : List (PyData × PyData) → Option (List (Key × PyData))
  | [] => some []
  | (k, d) :: r => (kOf k).bind fun kk => (flatPs r).map ((kk, d) :: ·)
def tupPs : List (PyData × PyData) → Option (List (List Key × PyData))
  | [] => some []
  | (k, d) :: r => (keyT k).bind fun kk => (tupPs r).map ((kk, d) :: ·)
/-- {k: v, ..} by numbers and texts -/
def dDispK (fs : List (DE × DE)) : DE := fun s => (runP fs s).bind fun q => (flatPs q.1).bind fun ps => if ps.length ≤ 15 then some (.dict (mergeF [] ps), q.2) else none
/-- .. by tuples, no key twice -/
def dDispT (fs : List (DE × DE)) : DE := fun s => (runP fs s).bind fun q => (tupPs q.1).bind fun ps => if ps.length ≤ 15 ∧ (ps.map (·.1)).Nodup then some (.dict ((.none, .none) :: kvD ps), q.2) else none
theorem DtP.flat {K : PySem.W.Frag} {mu : Addr → Prop} {H : Hp} : ∀ {ps : List (V × V)} {ds : List (PyData × PyData)} {prs : List (Key × PyData)}, DtP K mu H ps ds → flatPs ds = some prs →
    ∃ kvs : List (Key × V), ps = kvs.map (fun kv => (kV kv.1, kv.2)) ∧ kvs.length = prs.length ∧ DtKv K mu H kvs (prs.map fun p => (kD p.1, p.2))
  | _, _, _, .nil, e => by cases e; exact ⟨[], rfl, rfl, .nil⟩
  | _, _, prs, .cons h g t, e => by
    unfold flatPs at e
    simp only [Option.bind_eq_some_iff, Option.map_eq_some_iff] at e
    obtain ⟨kk, e1, prs', e2, rfl⟩ := e
    obtain ⟨kvs, rfl, l, dk⟩ := t.flat e2
    obtain rfl := h.keyF e1
    exact ⟨(kk, _) :: kvs, rfl, by rw [List.length_cons, List.length_cons, l], .cons g dk⟩
theorem DtP.tup {K : PySem.W.Frag} {mu : Addr → Prop} {H : Hp} : ∀ {ps : List (V × V)} {ds : List (PyData × PyData)} {prs : List (List Key × PyData)}, DtP K mu H ps ds → tupPs ds = some prs →
    ∃ xs : List (List Key × Addr × V), ps = xs.map (fun x => (V.ref x.2.1, x.2.2)) ∧ (∀ x ∈ xs, H x.2.1 = some (.tup (x.1.map kV))) ∧ xs.map (·.1) = prs.map (·.1) ∧ DtKT K mu H (xs.map fun x => (x.1, x.2.2)) prs
  | _, _, _, .nil, e => by cases e; exact ⟨[], rfl, fun x hx => (by cases hx), rfl, .nil⟩
  | _, _, prs, .cons h g t, e => by
    unfold tupPs at e
    simp only [Option.bind_eq_some_iff, Option.map_eq_some_iff] at e
    obtain ⟨kk, e1, prs', e2, rfl⟩ := e
    obtain ⟨xs, rfl, hx, l, dk⟩ := t.tup e2
    obtain ⟨b, rfl, hb⟩ := h.keyT e1
    refine ⟨(kk, b, _) :: xs, rfl, fun x hm => ?_, by rw [List.map_cons, List.map_cons, l], .cons g dk⟩
    rcases List.mem_cons.mp hm with z | z
    · rw [z]; exact hb
    · exact hx x z
section
variable {X : Cx} {Z : Par} {pos : Pos} {keys : List (Option Expr)} {values : List Expr} {fs : List (DE × DE)}
theorem ddispK (h : PPs X pos keys values (fs.map fun p => (lfE X.K p.1, lfE X.K p.2))) (hall : keys.all (·.isSome) = true := by rfl) (hl : keys.length = values.length := by rfl) (h0 : keys ≠ [] := by exact fun z => by cases z) (h15 : keys.length ≤ 15 := by decide) :
    PE X (.Dict keys values pos) (lft X.K Z (dDispK fs)) := PEimp (pe_disp h hall hl h0 h15) fun σ H Q q => by
  obtain ⟨M, s, d, s', rl, hf, k⟩ := q
  unfold dDispK at hf
  simp only [Option.bind_eq_some_iff] at hf
  obtain ⟨⟨prs, s1⟩, e1, ps, e2, e3⟩ := hf
  dsimp only at e2 e3
  split at e3
  case isFalse => cases e3
  rename_i few
  cases e3
  intro p hp
  have npp : p ∉ Z.p := fun z => by
    obtain ⟨o, e⟩ := rl.pt p z
    rw [hp] at e; cases e
  have nm : p ∉ M := fun z => by
    obtain ⟨_, _, _, o, e⟩ := rl.fr p z
    rw [hp] at e; cases e
  have n0 : Z.H0 p = none := by
    cases q : Z.H0 p with
    | none => rfl
    | some o =>
      have := rl.base p o q npp
      rw [hp] at this; cases this
  refine lift_pairs fs (rl.addNew hp (.dK [])) e1 fun vs H2 k2 r2 tp => ?_
  obtain ⟨kvs, rfl, l, dk⟩ := tp.flat e2
  have h2 : H2 p = some (.dK []) := (k2 p _ upd_same npp nm).1
  refine ⟨h2, kvs, rfl, by rw [l]; exact few, ?_⟩
  have r3 := (r2.wrAdd npp (.dK (mergeK [] kvs)) n0).unadd
  have np : ¬ Mu Z M p := fun z => by
    obtain ⟨o, e⟩ := rl.muT p z
    rw [hp] at e; cases e
  have kk : Kq Z M H M (upd H2 p (.dK (mergeK [] kvs))) := fun a o e n1 n2 => ⟨by
    have na := ne_of_none e hp
    rw [upd_ne na]
    exact (k2 a o (grow_new hp a o e) n1 n2).1, n2⟩
  refine k _ _ kk r3 (.dct upd_same np ?_)
  refine (merge_ok dk .nil).mono fun a o e n => ⟨?_, fun z => n (mu_add.mpr (.inl z))⟩
  have na : a ≠ p := fun z => n (mu_add.mpr (.inr z))
  rw [upd_ne na]
  exact e
def tDispT (trs : List (TE × TE)) : TE := fun σ H Q => ∀ p, H p = none → tPairs trs σ (upd H p (.dT [])) fun ps H2 => H2 p = some (.dT []) ∧ ∃ xs : List (List Key × Addr × V), ps = xs.map (fun x => (V.ref x.2.1, x.2.2)) ∧ (∀ x ∈ xs, H2 x.2.1 = some (.tup (x.1.map kV))) ∧
  (xs.map (·.1)).Nodup ∧ xs.length ≤ 15 ∧ Q (.ref p) (upd H2 p (.dT (xs.map fun x => (x.1, x.2.2))))
theorem carries_ofT {P : Program} {w : World} {H : Hp} {h : Heap} (ok : HOk P w H h) : ∀ {xs : List (List Key × Addr × V)} {ws : List (Value × Value)}, VV (xs.map fun x => (V.ref x.2.1, x.2.2)) ws → (∀ x ∈ xs, H x.2.1 = some (.tup (x.1.map kV))) →
    ∃ rs : List (List Key × Addr × Value), CarriesH (tupleKind (mixKind P w)) h ws rs ∧ rs.map (·.1) = xs.map (·.1) ∧ Paired (fun (p : List Key × V) (q : List Key × Addr × Value) => p.1 = q.1 ∧ H q.2.1 = some (.tup (p.1.map kV)) ∧ RelV p.2 q.2.2) (xs.map fun x => (x.1, x.2.2)) rs
  | [], _, r, _ => by rw [List.map_nil] at r; cases r; exact ⟨[], True.intro, rfl, .nil⟩
  | x :: xs, _, r, hx => by
    rw [List.map_cons] at r
    cases r with
    | @cons a b as bs h t =>
      obtain ⟨rs, c, m, q⟩ := carries_ofT ok t fun y hy => hx y (List.mem_cons_of_mem _ hy)
      obtain ⟨b1, b2⟩ := b
      have hb := hx x List.mem_cons_self
      exact ⟨(x.1, x.2.1, b2) :: rs, ⟨h.1, rfl, key_of ok hb, c⟩, by rw [List.map_cons, List.map_cons, m], .cons ⟨rfl, hb, h.2⟩ q⟩
theorem pe_dispT {trs : List (TE × TE)} (hu : X.A.units + 1 < cLine) (h : PPs X pos keys values trs) (hall : keys.all (·.isSome) = true) (hl : keys.length = values.length) (h0 : keys ≠ []) (h15 : keys.length ≤ 15) : PE X (.Dict keys values pos) (tDispT trs) := by
  refine ⟨fun pins s σ H Q I q => ?_⟩
  have hn := I.hok.fresh (Nat.le_refl s.heap.objs.size)
  have I1 := I.laid (a := s.heap.objs.size) (o := .dT []) (h' := s.heap.push { cls := .type "dict", data := .dict #[] }) (t' := s.toks) (fun _ _ q => Heap.get?_push_of_some _ q) (Nat.le_refl _) (dt_empty s.heap I.big)
  have hlen := pairTrees_length keys values X.env pos hall hl
  have hne : pairTrees keys values X.env pos ≠ [] := fun z => by
    rw [z] at hlen
    exact h0 (List.length_eq_zero_iff.mp hlen.symm)
  rw [arm_eval_Dict, zip_pairTrees keys values X.env pos hall hl, dictDisplay_pairs _ hne (by omega)]
  refine wpAny_bind (wpAny_standAt (wpAny_bind (wpAny_subDictH (knd := tupleKind (mixKind X.prog X.w)) (Q := fun d s' => wpAny (model X.prog X.w) X.A (pure (Value.ref d)) (EP X pins σ Q) X.xe s') ?_ (by omega)
    (thn (h.run pins _ σ _ _ I1 (q _ hn)) fun ws s2 ⟨ps, H2, I2, rel, e, xs, ep, hx, nd, few, q2⟩ => ?_))))
  · exact (show (tupleKind (mixKind X.prog X.w)).room X.A from by
      have : X.A.units < cLine := by omega
      exact this)
  · subst ep
    obtain ⟨rs, c, m, pr⟩ := carries_ofT I2.hok rel hx
    obtain ⟨z, hd, xs0, r0, dd⟩ := dt_of I2.hok e
    cases r0
    refine ⟨rs, c, dd, fun h' tk dd' hs => wpAny_pure ⟨.ref s.heap.objs.size, _, ?_, rfl, q2⟩⟩
    rw [storedAllH_nil_of_nodup rs (by rw [m]; exact nd)] at dd'
    obtain ⟨o, es, ep, h1, h2, h3, h4, h5, h6⟩ := dd'
    refine d_write I2 (by rw [e]; exact True.intro) hs ⟨o, h1⟩ ⟨by rw [List.length_map, sizeLine_eq]; omega, hd, rs, ?_, o, es, ep, h1, h2, h3, h4, h6⟩
    exact Paired.mapP pr fun p q r => ⟨r.1, by rw [upd_ne (ne_of r.2.1 e (fun z => nomatch z))]; exact r.2.1, r.2.2⟩
theorem ddispT (hu : X.A.units + 1 < cLine) (h : PPs X pos keys values (fs.map fun p => (lfE X.K p.1, lfE X.K p.2))) (hall : keys.all (·.isSome) = true := by rfl) (hl : keys.length = values.length := by rfl) (h0 : keys ≠ [] := by exact fun z => by cases z) (h15 : keys.length ≤ 15 := by decide) :
    PE X (.Dict keys values pos) (lft X.K Z (dDispT fs)) := PEimp (pe_dispT hu h hall hl h0 h15) fun σ H Q q => by
  obtain ⟨M, s, d, s', rl, hf, k⟩ := q
  unfold dDispT at hf
  simp only [Option.bind_eq_some_iff] at hf
  obtain ⟨⟨prs, s1⟩, e1, ps, e2, e3⟩ := hf
  dsimp only at e2 e3
  split at e3
  case isFalse => cases e3
  rename_i few
  cases e3
  intro p hp
  have npp : p ∉ Z.p := fun z => by
    obtain ⟨o, e⟩ := rl.pt p z
    rw [hp] at e; cases e
  have nm : p ∉ M := fun z => by
    obtain ⟨_, _, _, o, e⟩ := rl.fr p z
    rw [hp] at e; cases e
  have n0 : Z.H0 p = none := by
    cases q : Z.H0 p with
    | none => rfl
    | some o =>
      have := rl.base p o q npp
      rw [hp] at this; cases this
  refine lift_pairs fs (rl.addNew hp (.dT [])) e1 fun vs H2 k2 r2 tp => ?_
  obtain ⟨xs, rfl, hx, l, dk⟩ := tp.tup e2
  have h2 : H2 p = some (.dT []) := (k2 p _ upd_same npp nm).1
  have ll : xs.length = ps.length := by have := congrArg List.length l; simpa using this
  refine ⟨h2, xs, rfl, hx, by rw [l]; exact few.2, by rw [ll]; exact few.1, ?_⟩
  have r3 := (r2.wrAdd npp (.dT (xs.map fun x => (x.1, x.2.2))) n0).unadd
  have np : ¬ Mu Z M p := fun z => by
    obtain ⟨o, e⟩ := rl.muT p z
    rw [hp] at e; cases e
  have kk : Kq Z M H M (upd H2 p (.dT (xs.map fun x => (x.1, x.2.2)))) := fun a o e n1 n2 => ⟨by
    have na := ne_of_none e hp
    rw [upd_ne na]
    exact (k2 a o (grow_new hp a o e) n1 n2).1, n2⟩
  refine k _ _ kk r3 (.dcT upd_same np ?_)
  refine dk.mono fun a o e n => ⟨?_, fun z => n (mu_add.mpr (.inl z))⟩
  have na : a ≠ p := fun z => n (mu_add.mpr (.inr z))
  rw [upd_ne na]
  exact e
end
end Dl

/-! ### defs with constants as defaults, called by places and by names -/
namespace Dl
open PySem PySem.Spec PyProof.Rows L2
def StdD (K : PySem.W.Frag) (mg : Str → Option Value) (x : Str) (st : Stmt) (dvs : List V) : Prop := ∃ (f : Addr) (fd : FuncData), FunD K x x (defArgs st) (defBody st) (defScope st) dvs [] f fd ∧ mg x = some (.ref f)
def CalD (P : Program) (w : World) (K : PySem.W.Frag) (mg : Str → Option Value) (base : Heap) (k : Nat) (x : Str) (st : Stmt) (ps : List Str) (sp : Sp) (dvs : List V) : Prop := ∃ (f : Addr) (fd : FuncData), FunD K x x (defArgs st) (defBody st) (defScope st) dvs [] f fd ∧ FnOk P w K mg base (L2.CX P w) k f fd ps sp ∧ mg x = some (.ref f)
/-- called by places, dvs filling up -/
def CalQ (P : Program) (w : World) (K : PySem.W.Frag) (mg : Str → Option Value) (base : Heap) (k : Nat) (x : Str) (ps : List Str) (sp : Sp) (dvs : List V) : Prop := ∃ (f : Addr) (fd : FuncData) (ds : List Value), FnOk P w K mg base (L2.CX P w) k f fd ps sp ∧ mg x = some (.ref f) ∧ PySem.W.keepIn K (.ref f) = true ∧ Vals dvs ds ∧ Binds K fd ps ds
/-- called by places and names -/
def CalK (P : Program) (w : World) (K : PySem.W.Frag) (mg : Str → Option Value) (base : Heap) (k : Nat) (x : Str) (ps : List Str) (sp : Sp) (n : Nat) (ks : List Str) (gV : List V → List V → List V) : Prop := ∃ (f : Addr) (fd : FuncData) (g : List Value → List Value → List Value), FnOk P w K mg base (L2.CX P w) k f fd ps sp ∧ mg x = some (.ref f) ∧ PySem.W.keepIn K (.ref f) = true ∧ KBn K fd ps n ks g gV
/-- which value stands where: 0 of the places, 1 of the defaults, 2 of the names -/
def pick {α : Type} (ps : List (Nat × Nat)) (us ds zs : List α) : List α := ps.filterMap fun c => match c.1 with
  | 0 => us[c.2]?
  | 1 => ds[c.2]?
  | _ => zs[c.2]?
theorem pair_get {α β : Type} {R : α → β → Prop} : ∀ {xs : List α} {us : List β} (_ : Paired R xs us) (i : Nat), (xs[i]? = none ∧ us[i]? = none) ∨ ∃ x u, xs[i]? = some x ∧ us[i]? = some u ∧ R x u
  | _, _, .nil, i => .inl ⟨by simp, by simp⟩
  | _, _, .cons r t, 0 => .inr ⟨_, _, rfl, rfl, r⟩
  | _, _, .cons r t, i + 1 => by
    rcases pair_get t i with ⟨a, b⟩ | ⟨x, u, a, b, c⟩
    · exact .inl ⟨by simpa using a, by simpa using b⟩
    · exact .inr ⟨x, u, by simpa using a, by simpa using b, c⟩
theorem dt_get {K : PySem.W.Frag} {mu : Addr → Prop} {H : Hp} : ∀ {xs : List V} {us : List PyData} (_ : DtAll K mu H xs us) (i : Nat), (xs[i]? = none ∧ us[i]? = none) ∨ ∃ x u, xs[i]? = some x ∧ us[i]? = some u ∧ Dt K mu H x u
  | _, _, .nil, i => .inl ⟨by simp, by simp⟩
  | _, _, .cons r t, 0 => .inr ⟨_, _, rfl, rfl, r⟩
  | _, _, .cons r t, i + 1 => by
    rcases dt_get t i with ⟨a, b⟩ | ⟨x, u, a, b, c⟩
    · exact .inl ⟨by simpa using a, by simpa using b⟩
    · exact .inr ⟨x, u, by simpa using a, by simpa using b, c⟩
theorem pair_pick {α β : Type} {R : α → β → Prop} {us ds zs : List α} {us' ds' zs' : List β} (a : Paired R us us') (b : Paired R ds ds') (c : Paired R zs zs') : ∀ ps : List (Nat × Nat), Paired R (pick ps us ds zs) (pick ps us' ds' zs')
  | [] => .nil
  | (m, i) :: ps => by
    have ih := pair_pick a b c ps
    unfold pick at ih ⊢
    have : ∀ {p : Option α} {q : Option β}, ((p = none ∧ q = none) ∨ ∃ x u, p = some x ∧ q = some u ∧ R x u) → ∀ {f : Nat × Nat → Option α} {g : Nat × Nat → Option β}, f (m, i) = p → g (m, i) = q → Paired R (ps.filterMap f) (ps.filterMap g) → Paired R (((m, i) :: ps).filterMap f) (((m, i) :: ps).filterMap g) := by
      intro p q h f g e1 e2 h2
      rcases h with ⟨rfl, rfl⟩ | ⟨x, u, rfl, rfl, r⟩
      · rw [List.filterMap_cons, List.filterMap_cons, e1, e2]; exact h2
      · rw [List.filterMap_cons, List.filterMap_cons, e1, e2]; exact .cons r h2
    match m with
    | 0 => exact this (pair_get a i) rfl rfl ih
    | 1 => exact this (pair_get b i) rfl rfl ih
    | m + 2 => exact this (pair_get c i) rfl rfl ih
theorem dt_pick {K : PySem.W.Frag} {mu : Addr → Prop} {H : Hp} {us ds zs : List V} {us' ds' zs' : List PyData} (a : DtAll K mu H us us') (b : DtAll K mu H ds ds') (c : DtAll K mu H zs zs') : ∀ ps : List (Nat × Nat), DtAll K mu H (pick ps us ds zs) (pick ps us' ds' zs')
  | [] => .nil
  | (m, i) :: ps => by
    have ih := dt_pick a b c ps
    unfold pick at ih ⊢
    have : ∀ {p : Option V} {q : Option PyData}, ((p = none ∧ q = none) ∨ ∃ x u, p = some x ∧ q = some u ∧ Dt K mu H x u) → ∀ {f : Nat × Nat → Option V} {g : Nat × Nat → Option PyData}, f (m, i) = p → g (m, i) = q → DtAll K mu H (ps.filterMap f) (ps.filterMap g) → DtAll K mu H (((m, i) :: ps).filterMap f) (((m, i) :: ps).filterMap g) := by
      intro p q h f g e1 e2 h2
      rcases h with ⟨rfl, rfl⟩ | ⟨x, u, rfl, rfl, r⟩
      · rw [List.filterMap_cons, List.filterMap_cons, e1, e2]; exact h2
      · rw [List.filterMap_cons, List.filterMap_cons, e1, e2]; exact .cons r h2
    match m with
    | 0 => exact this (dt_get a i) rfl rfl ih
    | 1 => exact this (dt_get b i) rfl rfl ih
    | m + 2 => exact this (dt_get c i) rfl rfl ih
section
variable {P : Program} {w : World} {K : PySem.W.Frag} {mg : Str → Option Value} {base : Heap}
theorem okXD {x qual : Str} {params : Arguments} {body : List Stmt} {scope : Scope} {dvs : List V} {kws : List (Str × V)} {f : Addr} {fd : FuncData} {N ps : List Str} {k : Nat} {b : DSx} (F : FunD K x qual params body scope dvs kws f fd) (S : FnScope N ps scope)
    (hb : ∀ (cdv : Value) (A : Around) (outer : List Env) (s : Shared) (H : Hp) (E : XK) (Z : Par), Room k (A.deeper (envOfC qual scope s.heap.objs.size f cdv)) → PSs (cxOf (L2.CX P w) P w K mg base N qual scope f cdv A outer s H E) body (lfSx K mg Z (fun cls d _ H => E cls d H) b)) :
    FnOk P w K mg base (L2.CX P w) (k + 1) f fd ps (spX K mg (fnX N ps.length b)) := by
  refine F.ok (CX := L2.CX P w) S (fun vs H Q E h => ?_) (fun cdv A outer s H vs Q E hr h => ?_)
  · obtain ⟨mu, ds, d, h1, h2, h3, h4⟩ := h
    unfold fnX at h3
    split at h3
    · rename_i hl
      rw [h2.len]; exact hl
    · cases h3
  · obtain ⟨mu, ds, d, h1, h2, h3, h4⟩ := h
    unfold fnX at h3
    split at h3
    case isFalse => cases h3
    rename_i hl
    let Z : Par := ⟨H, [], mu, .nil⟩
    refine ⟨_, hb cdv A outer s H E Z hr, [], startS N ds, ?_⟩
    have muE : ∀ a, Mu Z [] a → mu a := fun a q => by
      rcases q with q | q | q
      · exact q
      · cases q
      · cases q
    have r : Rel K Z [] (start N vs) H (startS N ds) := by
      refine ⟨fun a o e _ => e, fun a ha => (by cases ha), h1, fun a ha => (by cases ha), ?_⟩
      unfold startS L2.start
      rw [h2.len]
      exact slAll_start _ (h2.mono fun a o e n => ⟨e, fun z => n (muE a z)⟩)
    unfold outX at h3
    split at h3
    · rename_i d1 s1 hq
      cases h3
      refine ⟨_, r, hq, fun M σ H1 v k1 r1 t1 => h4 v H1 (fun a o e => r1.base a o e (fun z => by cases z)) (t1.mono fun a o e n => ⟨e, fun z => n (.inl z)⟩)⟩
    · rename_i s1 hq
      cases h3
      refine ⟨_, r, hq, fun M σ H1 k1 r1 => h4 _ H1 (fun a o e => r1.base a o e (fun z => by cases z)) .non⟩
    · rename_i c s1 hq
      cases h3
      exact ⟨_, r, hq, fun C M σ H' hm k1 r1 => h4 C H' hm fun a o e => r1.base a o e fun z => by cases z⟩
    · cases h3
theorem calD {x : Str} {st : Stmt} {N ps : List Str} {k : Nat} {b : DSx} {dvs : List V} (F : StdD K mg x st dvs) (S : FnScope N ps (defScope st))
    (hb : ∀ (f : Addr) (cdv : Value) (A : Around) (outer : List Env) (s : Shared) (H : Hp) (E : XK) (Z : Par), Room k (A.deeper (envOfC x (defScope st) s.heap.objs.size f cdv)) → PSs (cxOf (L2.CX P w) P w K mg base N x (defScope st) f cdv A outer s H E) (defBody st) (lfSx K mg Z (fun cls d _ H => E cls d H) b)) :
    CalD P w K mg base (k + 1) x st ps (spX K mg (fnX N ps.length b)) dvs := by
  obtain ⟨f, fd, F, hm⟩ := F
  exact ⟨f, fd, F, okXD F S (fun cdv A outer s H E Z hr => hb f cdv A outer s H E Z hr), hm⟩
variable {x : Str} {st : Stmt} {ps : List Str} {k : Nat} {sp : Sp} {dvs : List V}
/-- n values stand in the call, the defaults behind the first j fill up -/
theorem CalD.pos (C : CalD P w K mg base k x st ps sp dvs) (n j : Nat) (hd : dvs ≠ []) (hn : n + (dvs.length - j) = ps.length)
    (h : ∀ (T : Addr) (kV doc pm : Value) (an : Option Addr) (cdv ct : Value) (us its : List Value), us.length = n → its.length = dvs.length →
      ∃ k, bindArgs (PySem.W.fnOf x x (defArgs st) (defBody st) (defScope st) (.ref T) kV doc pm an cdv ct) ⟨us, []⟩ = seqItems? (.ref T) >>= k ∧ k (some its.toArray) = pure (ps.zip (us ++ its.drop j))) : CalQ P w K mg base k x ps sp (dvs.drop j) := by
  obtain ⟨f, fd, F, ok, hm⟩ := C
  obtain ⟨ds, r, b⟩ := F.binds1 n j hd hn h
  exact ⟨f, fd, ds, ok, hm, F.kp, r, b⟩
theorem CalQ.all (C : CalQ P w K mg base k x ps sp []) : CalX P w K mg base k x ps sp := by
  obtain ⟨f, fd, ds, ok, hm, kp, r, b⟩ := C
  cases r
  exact ⟨f, fd, ok, hm, kp, b⟩
theorem CalD.kw (C : CalD P w K mg base k x st ps sp dvs) (n : Nat) (ks : List Str) (pc : List (Nat × Nat)) (hd : dvs ≠ [])
    (h : ∀ (T : Addr) (kV doc pm : Value) (an : Option Addr) (cdv ct : Value) (us its ws : List Value), us.length = n → its.length = dvs.length → ws.length = ks.length →
      ∃ k, bindArgs (PySem.W.fnOf x x (defArgs st) (defBody st) (defScope st) (.ref T) kV doc pm an cdv ct) ⟨us, ks.zip ws⟩ = seqItems? (.ref T) >>= k ∧ k (some its.toArray) = pure (ps.zip (pick pc us its ws))) : CalK P w K mg base k x ps sp n ks (fun vs zs => pick pc vs dvs zs) := by
  obtain ⟨f, fd, F, ok, hm⟩ := C
  obtain ⟨its, b⟩ := F.kbindsD n ks (fun us ds zs => pick pc us ds zs) hd (fun a b c => pair_pick a b c pc) h
  exact ⟨f, fd, _, ok, hm, F.kp, b⟩
end
def withD (m : List PyData → Option PyData) (dd : List PyData) : List PyData → Option PyData := fun ds => m (ds ++ dd)
def dCallK (m : List PyData → Option PyData) (n k : Nat) (pk : List PyData → List PyData → List PyData) (ga gk : DA) : DE := fun s => (ga s).bind fun p => (gk p.2).bind fun q => if p.1.length = n ∧ q.1.length = k then (m (pk p.1 q.1)).map fun d => (d, q.2) else none
theorem PKimp {X : Cx} {e : List Keyword} {t t' : TA} (h : PK X e t) (i : ∀ σ H Q, t' σ H Q → t σ H Q) : PK X e t' := ⟨fun pos pins s σ H Q I q => h.run pos pins s σ H Q I (i σ H Q q)⟩
section
variable {X : Cx} {Z : Par} {e : Expr} {es : List Expr} {kws : List Keyword} {pos kpos : Pos} {fa : DE} {ga gk : DA} {nm : Option Str}
theorem dknil : PK X [] (lfA X.K Z aNil) := PKimp pk_nil fun σ H Q h => by
  obtain ⟨M, s, d, s', rl, hf, k⟩ := h
  cases hf
  exact k [] H (Kq.refl _ _ _) rl .nil
theorem dkcons (ha : PE X e (lft X.K Z fa)) (hb : PK X kws (lfA X.K Z gk)) : PK X (⟨nm, e, kpos⟩ :: kws) (lfA X.K Z (aCons fa gk)) := PKimp (pk_cons ha hb) fun σ H Q h => by
  obtain ⟨M, s, d, s', rl, hf, k⟩ := h
  obtain ⟨d1, s1, r, h1, h2, rfl⟩ := aCons_some hf
  exact ⟨M, s, d1, s1, rl, h1, fun v H1 k1 r1 t1 => ⟨M, s1, r, s', r1, h2, fun vs H2 k2 r2 t2 => k _ H2 (k1.trans k2) r2 (.cons (t1.mono k2.kp) t2)⟩⟩
theorem DtAll.app {K : PySem.W.Frag} {mu : Addr → Prop} {H : Hp} : ∀ {xs : List V} {us : List PyData} {ys : List V} {ws : List PyData}, DtAll K mu H xs us → DtAll K mu H ys ws → DtAll K mu H (xs ++ ys) (us ++ ws)
  | _, _, _, _, .nil, h => h
  | _, _, _, _, .cons a t, h => .cons a (t.app h)
theorem dclD {m : List PyData → Option (Rx PyData)} {j k : Nat} {x : Str} {ps : List Str} {p : Pos} {dvs : List V} {dd : List PyData} (c : CalQ X.prog X.w X.K X.mg X.base j x ps (spX X.K X.mg m) dvs) (hdt : ∀ mu H, DtAll X.K mu H dvs dd) (hr : Room k X.A) (hj : j ≤ k) (hg : Gl X x) (ha : PA X (e :: es) (lfA X.K Z ga))
    (hdb : (x == ("__debug__" : Str)) = false := by decide) (he : starEach (e :: es) X.env = (false, eval e X.env) :: starEach es X.env := by rfl) (hpl : (backTo pos (starEach es X.env)).any (·.1) = false := by rfl) :
    PE X (.Call (.Name x p) (e :: es) [] pos) (lft X.K Z (dCall (withD (okOf m) dd) ga)) := by
  obtain ⟨f, fd, ds0, F, hm, hk, hv, hb⟩ := c
  refine PEimp (pe_call F (hr.mono hj) hg hm hk hb hv (passL) ha hdb he hpl) fun σ H Q h => ?_
  obtain ⟨M, s, d, s', rl, hf, k⟩ := h
  unfold dCall withD okOf at hf
  simp only [Option.bind_eq_some_iff, Option.map_eq_some_iff] at hf
  obtain ⟨⟨ds, s1⟩, h1, d1, h2, h3⟩ := hf
  cases h3
  split at h2
  · rename_i d2 hm2
    cases h2
    refine ⟨M, s, ds, _, rl, h1, fun vs H1 k1 rl1 t1 => ?_⟩
    show spX X.K X.mg m (vs ++ dvs) H1 Q E0
    exact ⟨Mu Z M, _, _, rl1.muT, t1.app (hdt _ _), hm2, fun v H2 g2 t2 => k v H2 (k1.trans (kq_grow g2)) (rl1.grow g2) t2⟩
  · cases h2
theorem dclK {m : List PyData → Option (Rx PyData)} {j k n : Nat} {x : Str} {ps ks : List Str} {p : Pos} {dvs : List V} {dd : List PyData} {pc : List (Nat × Nat)} (c : CalK X.prog X.w X.K X.mg X.base j x ps (spX X.K X.mg m) n ks (fun vs zs => pick pc vs dvs zs)) (hdt : ∀ mu H, DtAll X.K mu H dvs dd) (hr : Room k X.A) (hj : j ≤ k) (hg : Gl X x) (ha : PA X (e :: es) (lfA X.K Z ga)) (hkw : PK X kws (lfA X.K Z gk))
    (hall : (backToKw pos (keywordEach kws X.env)).all (·.1.isSome) = true := by rfl) (hks : (backToKw pos (keywordEach kws X.env)).filterMap (·.1) = ks := by rfl)
    (hdb : (x == ("__debug__" : Str)) = false := by decide) (he : starEach (e :: es) X.env = (false, eval e X.env) :: starEach es X.env := by rfl)
    (hpl : ((backTo pos (starEach (e :: es) X.env)).any (·.1) || (backToKw pos (keywordEach kws X.env)).any (·.1.isNone)) = false := by rfl) :
    PE X (.Call (.Name x p) (e :: es) kws pos) (lft X.K Z (dCallK (okOf m) n ks.length (fun us zs => pick pc us dd zs) ga gk)) := by
  obtain ⟨f, fd, g, F, hm, hk, hb⟩ := c
  refine PEimp (pe_callN F (hr.mono hj) hg hm hk hb (passL) ha hkw hall hks hdb he hpl) fun σ H Q h => ?_
  obtain ⟨M, s, d, s', rl, hf, k⟩ := h
  unfold dCallK okOf at hf
  simp only [Option.bind_eq_some_iff] at hf
  obtain ⟨⟨ds, s1⟩, h1, ⟨zs, s2⟩, h2, h3⟩ := hf
  dsimp only at h2 h3
  split at h3
  case isFalse => cases h3
  rename_i hl
  simp only [Option.map_eq_some_iff] at h3
  obtain ⟨d1, h4, h5⟩ := h3
  cases h5
  split at h4
  · rename_i d2 hm2
    cases h4
    refine ⟨M, s, ds, _, rl, h1, fun vs H1 k1 rl1 t1 => ⟨M, s1, zs, _, rl1, h2, fun ws H2 k2 rl2 t2 => ⟨t1.len.trans hl.1, t2.len.trans hl.2, ?_⟩⟩⟩
    exact ⟨Mu Z M, _, _, rl2.muT, dt_pick (t1.mono k2.kp) (hdt _ _) t2 pc, hm2, fun v H3 g3 t3 => k v H3 ((k1.trans k2).trans (kq_grow g3)) (rl2.grow g3) t3⟩
  · cases h4
end
section
open He
variable {fa : List Fa} {fn : List DefD} {K : PySem.W.Frag} {mg : Str → Option Value} {h : Heap}
/-- a def with defaults in the head's list -/
def dOfD (x : Str) (st : Stmt) (dfl : List He.Dv) : He.DefD := ⟨(x, none), x, x, defArgs st, defBody st, defScope st, dfl, []⟩
theorem std_ofD (X : K.In h) (G : h.Ns mainGlobals mg) (c : He.SaysD fa fn K) (i j : Nat) {x : Str} {st : Stmt} {dfl : List He.Dv} {dvs : List V} (at_ : fn[i]? = some (dOfD x st dfl)) (gl : fa[j]? = some (.glo x)) (hv : dfl.map (He.Dv.v K) = dvs) : StdD K mg x st dvs := by
  obtain ⟨fd, F⟩ := c.def_ i at_
  subst hv
  exact ⟨_, fd, F, He.glo_ok X G (c.fact j gl)⟩
end
end Dl

/-! ### a def that makes texts of things: called where no text of a thing is being made -/
namespace Dl
open PySem PySem.Spec PyProof.Rows L2
def SysB (base : Heap) : Prop := ∃ o es n, base.get? sysModules = some o ∧ o.data = .dict es n
structure FnOkG (P : Program) (w : World) (K : PySem.W.Frag) (mg : Str → Option Value) (base : Heap) (k : Nat) (f : Addr) (fd : FuncData) (ps : List Str) (sp : Sp) : Prop where
  ln : ∀ vs H Q E, sp vs H Q E → vs.length = ps.length
  go : ∀ (A : Around) (fr : List Env) (t : Shared) (H : Hp) (args : Args) (us : List Value) (vs : List V) (Q : VK) (E : XK), Room k A → A.guards = some [] → Env0 P w K mg base A fr t H → BindsTo t fd args (ps.zip us) → Vals vs us → sp vs H Q E → codeAny (model P w) A (.call (.ref f) args) (CR CX0 fr P w H t Q E) t
theorem FnOkG.mono {P : Program} {w : World} {K : PySem.W.Frag} {mg : Str → Option Value} {base : Heap} {j k : Nat} {f : Addr} {fd : FuncData} {ps : List Str} {sp : Sp} (F : FnOkG P w K mg base j f fd ps sp) (h : j ≤ k) :
    FnOkG P w K mg base k f fd ps sp := ⟨F.ln, fun A fr t H args us vs Q E r => F.go A fr t H args us vs Q E (r.mono h)⟩
theorem okG {P : Program} {w : World} {K : PySem.W.Frag} {mg : Str → Option Value} {base : Heap} {x qual : Str} {st : Stmt} {f : Addr} {fd : FuncData} {N ps : List Str} {k : Nat} {sp : Sp} (F : Fun K x qual st f fd) (S : FnScope N ps (defScope st)) (ln : ∀ vs H Q E, sp vs H Q E → vs.length = ps.length)
    (bd : ∀ (cdv : Value) (A : Around) (fr : List Env) (t : Shared) (H : Hp) (vs : List V) (Q : VK) (E : XK), Room k (A.deeper (envOfC qual (defScope st) t.heap.objs.size f cdv)) → A.guards = some [] → sp vs H Q E →
      ∃ g, PSs (cxOf CX0 P w K mg base N qual (defScope st) f cdv A fr t H E).nox (defBody st) g ∧ g { nx := fun _ H' => Q .non H', rt := Q } (start N vs) H) : FnOkG P w K mg base (k + 1) f fd ps sp := by
  obtain ⟨oc, od, kV, doc, pm, an, cdv, ct, osl, rfl, at_, code⟩ := F.ex
  refine ⟨ln, fun A fr t H args us vs Q E room gd env bt r q => ?_⟩
  have kx : K.In t.heap := env.mod.kin.keeps fun b o e => (env.bs b o e).1
  have nl : t.heap.NoLimit := env.mod.nolimit.keeps fun b o e => (env.bs b o e).1
  have kinds : ∀ y ∈ ps.zip us, (defScope st).names.lookup y.1 = some .local ∨ ((defScope st).names.lookup y.1 = some .cell ∧ ((cellsFrom (t.heap.objs.size + 1) (defScope st).names []).lookup y.1).isSome = true) := by
    rintro ⟨n, v⟩ hy
    rcases S.par n (List.of_mem_zip hy).1 with z | z
    · exact .inl z
    · exact .inr ⟨z, PySem.W.cellsFrom_some _ _ _ (.inl z)⟩
  refine codeAny_call_function room.depth (kx _ _ at_) rfl S.co S.gen rfl (PySem.W.codeRec_of kx code) (bt _ _ _ _ ?_)
  refine wpAny_newFunctionEnv_cells S.kind kinds fun ev he t1 xk => ?_
  subst he
  refine ⟨nl.keeps xk.toInCall.keep, codeAny_func ?_⟩
  obtain ⟨g, pg, gq⟩ := bd cdv A fr t H vs Q E (room.deeper _) gd q
  have J : Inv (cxOf CX0 P w K mg base N qual (defScope st) f cdv A fr t H E) [] (start N vs) H t1 := inv_start S room.hd env (ln _ _ _ _ q) r xk
  have out : ∀ {σ' : L2.St} {H' : Hp} {v : V} {u : Value} {t' : Shared}, Inv (cxOf CX0 P w K mg base N qual (defScope st) f cdv A fr t H E) [] σ' H' t' → RelV v u → Q v H' → CE fr P w H t Q u t' :=
    fun {σ' H' v u t'} I rv z => ⟨v, H', I.os, I.bare, I.base, I.hok, rv, z⟩
  refine wpAny_mono (pg.nox.run [] t1 (start N vs) H _ J gq) (fun fl t' hs => ?_) fun e t' hs => hs
  match fl, hs with
  | .ret u, ⟨v, σ', H', I, rv, z⟩ => exact out I rv z
  | .next, ⟨σ', H', I, z⟩ => exact out (v := V.non) (u := Value.none) I rfl z
  | .brk, ⟨_, _, _, z⟩ => exact z.elim
  | .cont, ⟨_, _, _, z⟩ => exact z.elim
def CalG (P : Program) (w : World) (K : PySem.W.Frag) (mg : Str → Option Value) (base : Heap) (k : Nat) (x : Str) (ps : List Str) (sp : Sp) : Prop := ∃ (f : Addr) (fd : FuncData), FnOkG P w K mg base k f fd ps sp ∧ mg x = some (.ref f) ∧ PySem.W.keepIn K (.ref f) = true ∧ Binds K fd ps []
section
variable {P : Program} {w : World} {K : PySem.W.Frag} {mg : Str → Option Value} {base : Heap}
theorem calMG {x : Str} {st : Stmt} {N ps : List Str} {k : Nat} {b : DS} (F : Std K mg x st ps) (S : FnScope N ps (defScope st)) (sys : SysB base)
    (hb : ∀ (f : Addr) (cdv : Value) (A : Around) (outer : List Env) (s : Shared) (H : Hp) (E : XK) (Z : Par), Room k (A.deeper (envOfC x (defScope st) s.heap.objs.size f cdv)) → CG (cxOf CX0 P w K mg base N x (defScope st) f cdv A outer s H E).nox → PSs (cxOf CX0 P w K mg base N x (defScope st) f cdv A outer s H E).nox (defBody st) (lfS K Z b)) :
    CalG P w K mg base (k + 1) x ps (spM K (fnM N ps.length b)) := by
  obtain ⟨f, fd, F, hm, hb2⟩ := F
  refine ⟨f, fd, okG F S (fun vs H Q E h => ?_) (fun cdv A outer s H vs Q E hr gd h => ?_), hm, F.kp, hb2⟩
  · obtain ⟨mu, p, xs, pd, rest, ds, d, pd', rfl, h0, h1, h2, h3, h4, h5, h6⟩ := h
    unfold fnM at h5
    split at h5
    · rename_i hl
      rw [List.length_cons, h4.len]; exact hl
    · cases h5
  · obtain ⟨mu, p, xs, pd, rest, ds, d, pd', rfl, h0, h1, h2, h3, h4, h5, h6⟩ := h
    unfold fnM at h5
    split at h5
    case isFalse => cases h5
    rename_i hl
    let Z : Par := ⟨H, [p], mu, by simp⟩
    refine ⟨_, hb f cdv A outer s H E Z hr ⟨gd, by have := hr.un; show (A.deeper _).units + 100 < _; omega, sys⟩, [], startM N pd ds, ?_⟩
    have muE : ∀ a, Mu Z [] a → mu a := fun a q => by
      rcases q with q | q | q
      · exact q
      · rw [List.mem_singleton.mp q]; exact h0
      · cases q
    have kk : Kp mu H (Mu Z []) H := fun a o e n => ⟨e, fun z => n (muE a z)⟩
    have r : Rel K Z [] (start N (.ref p :: rest)) H (startM N pd ds) := by
      refine ⟨fun a o e _ => e, fun a ha => (by cases ha), h1, fun a ha => ⟨_, List.mem_singleton.mp ha ▸ h2⟩, ?_⟩
      unfold startM L2.start
      have e : N.length - (V.ref p :: rest).length = N.length - 1 - ds.length := by rw [List.length_cons, h4.len]; omega
      rw [e]
      exact .pot rfl h2 (h3.mono kk) (slAll_start _ (h4.mono kk))
    have fin : ∀ {M : List Addr} {σ : L2.St} {H1 : Hp} {s1 : Sl} {pd1 : List PyData}, Rel K Z M σ H1 s1 → s1[0]? = some (.pot 0 pd1) → ∃ xs1, H1 p = some (.lst xs1) ∧ DtAll K mu H1 xs1 pd1 := fun {M σ H1 s1 pd1} r1 e => by
      obtain ⟨a, xs1, _, e2, e3, e4⟩ := r1.sl.getPot e
      cases e2
      exact ⟨xs1, e3, e4.mono fun a o e n => ⟨e, fun z => n (.inl z)⟩⟩
    have bs : ∀ {M : List Addr} {σ : L2.St} {H1 : Hp} {s1 : Sl}, Rel K Z M σ H1 s1 → ∀ a o, H a = some o → a ≠ p → H1 a = some o := fun r1 a o e n => r1.base a o e (fun z => n (List.mem_singleton.mp z))
    unfold outM at h5
    split at h5
    · rename_i d1 s1 hq
      simp only [Option.map_eq_some_iff] at h5
      obtain ⟨pd1, hp, h5⟩ := h5
      cases h5
      refine ⟨_, r, hq, fun M σ H1 v k1 r1 t1 => ?_⟩
      obtain ⟨xs1, e1, e2⟩ := fin r1 (potOf_eq hp)
      exact h6 v H1 xs1 (bs r1) e1 e2 (t1.mono fun a o e n => ⟨e, fun z => n (.inl z)⟩)
    · rename_i s1 hq
      simp only [Option.map_eq_some_iff] at h5
      obtain ⟨pd1, hp, h5⟩ := h5
      cases h5
      refine ⟨_, r, hq, fun M σ H1 k1 r1 => ?_⟩
      obtain ⟨xs1, e1, e2⟩ := fin r1 (potOf_eq hp)
      exact h6 _ H1 xs1 (bs r1) e1 e2 .non
    · cases h5
end
section
variable {X : Cx} {k : Nat} {f : Addr} {fd : FuncData} {ps : List Str} {sp : Sp} {x : Str} {p pos : Pos} {e : Expr} {es : List Expr} {t : TA} {Z : Par} {ga : DA}
theorem pe_callG (F : FnOkG X.prog X.w X.K X.mg X.base k f fd ps sp) (cg : X.A.guards = some []) (hr : Room k X.A) (hg : Gl X x) (hm : X.mg x = some (.ref f)) (hk : PySem.W.keepIn X.K (.ref f) = true) (hb : Binds X.K fd ps [])
    (hx : Passes CX0 X E0) (ha : PA X (e :: es) t) (hdb : (x == ("__debug__" : Str)) = false) (he : starEach (e :: es) X.env = (false, eval e X.env) :: starEach es X.env) (hpl : (backTo pos (starEach es X.env)).any (·.1) = false) :
    PE X (.Call (.Name x p) (e :: es) [] pos) (tCall sp [] E0 t) := by
  refine ⟨fun pins s σ H Q I h => wpAny_Call_Name_kw (ld_glob I hg hm ?_ hdb)⟩
  refine PySem.W.callWith_K (h₀ := X.base) I.ok.mod.kin hk (thn (ha.run pos pins s σ H _ I h) fun us s1 ⟨vs, H1, I1, r, q⟩ => ⟨I1.kIn, ?_⟩) he hpl
  have q : sp (vs ++ []) H1 Q E0 := q
  rw [List.append_nil] at q
  have hl : us.length = ps.length := by rw [← r.length]; exact F.ln _ _ _ _ q
  refine wpAny_call (codeAny_mono (F.go X.A X.stack s1 H1 ⟨us, []⟩ us vs Q E0 hr cg I1.env0 (by have := hb s1 us I1.kIn (by rw [List.append_nil]; exact hl); rwa [List.append_nil] at this) r q) fun r s' z => ?_)
  match r, z with
  | .error e, z => exact hx pins σ H1 s1 e s' I1 z
  | .ok (.ret u), z => exact I1.after z
  | .ok .next, z => exact z.elim
  | .ok .brk, z => exact z.elim
  | .ok .cont, z => exact z.elim
theorem dclMG {j : Nat} {m : List PyData → List PyData → Option (PyData × List PyData)} (i : Nat) (c : CalG X.prog X.w X.K X.mg X.base j x ps (spM X.K m)) (cg : CG X) (hr : Room k X.A) (hj : j ≤ k) (hg : Gl X x) (h1 : PE X e (tVar i)) (ha : PA X es (lfA X.K Z ga)) (hx : Passes CX0 X E0 := by exact pass0)
    (hdb : (x == ("__debug__" : Str)) = false := by decide) (he : starEach (e :: es) X.env = (false, eval e X.env) :: starEach es X.env := by rfl) (hpl : (backTo pos (starEach es X.env)).any (·.1) = false := by rfl) :
    PE X (.Call (.Name x p) (e :: es) [] pos) (lft X.K Z (dCallM m i ga)) := by
  obtain ⟨f, fd, F, hm, hk, hb⟩ := c
  exact PEimp (pe_callG F cg.gd (hr.mono hj) hg hm hk hb hx (pa_cons h1 ha he) hdb he hpl) fun _ _ _ h => lift_callM h
end
end Dl

/-! ### walks that make new things (zip), comprehensions with several names -/
namespace Dl
open PySem PySem.Spec PyProof.Rows L2
def YieldsG (K : PySem.W.Frag) (mu : Addr → Prop) (H : Hp) (J : It) (ds : List PyData) : Prop := ∀ mu' H', Kp mu H mu' H' → (∀ a, mu' a → ∃ o, H' a = some o) → ∀ i, (i < ds.length → J.go i H' ∧ ∀ x H'', J.yld i H' x H'' → (∀ b o, H' b = some o → H'' b = some o) ∧ ∃ d, ds[i]? = some d ∧ Dt K mu' H'' x d) ∧ (ds.length ≤ i → J.stop i H')
theorem Yields.toG {K : PySem.W.Frag} {mu : Addr → Prop} {H : Hp} {J : It} {ds : List PyData} (h : Yields K mu H J ds) : YieldsG K mu H J ds := fun mu' H' k _ i => ⟨fun hi => ⟨((h mu' H' k i).1 hi).1, fun x H'' y => by
  obtain ⟨rfl, d, e, t⟩ := ((h mu' H' k i).1 hi).2 x H'' y
  exact ⟨fun _ _ z => z, d, e, t⟩⟩, (h mu' H' k i).2⟩
theorem YieldsG.mono {K : PySem.W.Frag} {mu mu' : Addr → Prop} {H H' : Hp} {J : It} {ds : List PyData} (h : YieldsG K mu H J ds) (k : Kp mu H mu' H') : YieldsG K mu' H' J ds := fun m2 H2 k2 i => h m2 H2 (k.trans k2) i
def lfIG (K : PySem.W.Frag) (Z : Par) (f : DF) : TI := fun σ H R => ∃ M s ds s', Rel K Z M σ H s ∧ f s = some (ds, s') ∧ ∀ J H', Kq Z M H M H' → Rel K Z M σ H' s' → YieldsG K (Mu Z M) H' J ds → R J H'
theorem piG {X : Cx} {Z : Par} {tg e : Expr} {ff : DF} (h : PI X tg e (lfI X.K Z ff)) : PI X tg e (lfIG X.K Z ff) := PIimp h fun σ H R q => by
  obtain ⟨M, s, ds, s', rl, hf, k⟩ := q
  exact ⟨M, s, ds, s', rl, hf, fun J H' k1 r1 y => k J H' k1 r1 y.toG⟩
def zipD : PyData → PyData → Option (List PyData)
  | .list a, .list b => some (List.zipWith (fun x y => .tuple [x, y]) a b)
  | .tuple a, .tuple b => some (List.zipWith (fun x y => .tuple [x, y]) a b)
  | _, _ => none
def itZ (f g : DE) : DF := fun s => (f s).bind fun p => (g p.2).bind fun q => (zipD p.1 q.1).map fun ds => (ds, q.2)
theorem yields_pair {K : PySem.W.Frag} {mu' : Addr → Prop} {H' H'' : Hp} {a b : List PyData} {xs ys : List V} {i : Nat} {v : V} (ta : DtAll K mu' H' xs a) (tb : DtAll K mu' H' ys b) (hm : ∀ a, mu' a → ∃ o, H' a = some o) (hi : i < (List.zipWith (fun x y => PyData.tuple [x, y]) a b).length)
    (h : ∃ T x y, v = .ref T ∧ H' T = none ∧ H'' = upd H' T (.tup [x, y]) ∧ xs[i]? = some x ∧ ys[i]? = some y) : (∀ b o, H' b = some o → H'' b = some o) ∧ ∃ d, (List.zipWith (fun x y => PyData.tuple [x, y]) a b)[i]? = some d ∧ Dt K mu' H'' v d := by
  obtain ⟨T, x, y, rfl, hT, rfl, h1, h2⟩ := h
  rw [List.length_zipWith] at hi
  have ia : i < a.length := by omega
  have ib : i < b.length := by omega
  obtain ⟨x', g1, t1⟩ := ta.get (List.getElem?_eq_getElem ia)
  obtain ⟨y', g2, t2⟩ := tb.get (List.getElem?_eq_getElem ib)
  rw [h1] at g1
  rw [h2] at g2
  cases g1
  cases g2
  refine ⟨grow_new hT, .tuple [a[i], b[i]], ?_, ?_⟩
  · rw [List.getElem?_zipWith, List.getElem?_eq_getElem ia, List.getElem?_eq_getElem ib]
  · have kk : Kp mu' H' mu' (upd H' T (.tup [x, y])) := kp_grow (grow_new hT)
    exact .tup upd_same (nomu_new hm hT) (.cons (t1.mono kk) (.cons (t2.mono kk) .nil))
theorem yields_zipL {K : PySem.W.Frag} {mu : Addr → Prop} {H : Hp} {p q : Addr} {a b : List PyData} (t : Dt K mu H (.ref p) (.list a)) (u : Dt K mu H (.ref q) (.list b)) : YieldsG K mu H (Itz K p q) (List.zipWith (fun x y => .tuple [x, y]) a b) := fun mu' H' k hm i => by
  obtain ⟨_, xs, e1, h1, h2⟩ := (t.mono k).list
  obtain ⟨_, ys, e2, h3, h4⟩ := (u.mono k).list
  cases e1
  cases e2
  refine ⟨fun hi => ?_, fun hi => ?_⟩
  · have hi' := hi
    rw [List.length_zipWith] at hi'
    obtain ⟨x, g1, _⟩ := h2.get (List.getElem?_eq_getElem (show i < a.length by omega))
    obtain ⟨y, g2, _⟩ := h4.get (List.getElem?_eq_getElem (show i < b.length by omega))
    refine ⟨⟨xs, ys, x, y, h1, h3, g1, g2⟩, fun v H'' hy => ?_⟩
    obtain ⟨T, x, y, e1, e2, e3, e4, e5⟩ := hy
    exact yields_pair h2 h4 hm hi ⟨T, x, y, e1, e2, e3, e4 xs h1, e5 ys h3⟩
  · rw [List.length_zipWith] at hi
    exact ⟨xs, ys, h1, h3, by rw [h2.len, h4.len]; omega⟩
theorem yields_zipT {K : PySem.W.Frag} {mu : Addr → Prop} {H : Hp} {p q : Addr} {a b : List PyData} (t : Dt K mu H (.ref p) (.tuple a)) (u : Dt K mu H (.ref q) (.tuple b)) : YieldsG K mu H (RZ.ItzT K p q) (List.zipWith (fun x y => .tuple [x, y]) a b) := fun mu' H' k hm i => by
  obtain ⟨_, xs, e1, h1, h2⟩ := (t.mono k).tuple
  obtain ⟨_, ys, e2, h3, h4⟩ := (u.mono k).tuple
  cases e1
  cases e2
  refine ⟨fun hi => ?_, fun hi => ?_⟩
  · have hi' := hi
    rw [List.length_zipWith] at hi'
    obtain ⟨x, g1, _⟩ := h2.get (List.getElem?_eq_getElem (show i < a.length by omega))
    obtain ⟨y, g2, _⟩ := h4.get (List.getElem?_eq_getElem (show i < b.length by omega))
    refine ⟨⟨xs, ys, x, y, h1, h3, g1, g2⟩, fun v H'' hy => ?_⟩
    obtain ⟨T, x, y, e1, e2, e3, e4, e5⟩ := hy
    exact yields_pair h2 h4 hm hi ⟨T, x, y, e1, e2, e3, e4 xs h1, e5 ys h3⟩
  · rw [List.length_zipWith] at hi
    exact ⟨xs, ys, h1, h3, by rw [h2.len, h4.len]; omega⟩
section
variable {X : Cx} {Z : Par} {tg a b e : Expr} {elts : List Expr} {kk : Nat} {pos p tpos : Pos} {fa fb : DE} {ff : DF} {f : DS} {g : TG} {gd : PyData → Sl → Option Sl}
theorem pizip (hg : Gl X "zip") (hm : X.mg "zip" = none) (ha : PE X a (lft X.K Z fa)) (hb : PE X b (lft X.K Z fb)) (hs : starEach [a, b] X.env = (false, eval a X.env) :: starEach [b] X.env := by rfl) (hs2 : starEach [b] X.env = [(false, eval b X.env)] := by rfl) (hpl : (backTo pos (starEach [b] X.env)).any (·.1) = false := by rfl) :
    PI X (.Tuple elts kk tpos) (.Call (.Name "zip" p) [a, b] [] pos) (lfIG X.K Z (itZ fa fb)) := PIimp (RZ.pi_zipA hg hm (pa_cons ha (pa_cons hb pa_nil hs2) hs) hs hpl) fun σ H R h => by
  obtain ⟨M, s, ds, s', rl, hf, k⟩ := h
  unfold itZ at hf
  simp only [Option.bind_eq_some_iff, Option.map_eq_some_iff] at hf
  obtain ⟨⟨d1, s1⟩, h1, ⟨d2, s2⟩, h2, zs, h3, h4⟩ := hf
  cases h4
  dsimp only at h2 h3
  unfold zipD at h3
  split at h3
  · cases h3
    refine ⟨M, s, _, s1, rl, h1, fun v H1 k1 r1 t1 => ⟨M, s1, _, s2, r1, h2, fun w H2 k2 r2 t2 => ?_⟩⟩
    have t1 := t1.mono k2.kp
    obtain ⟨q1, xs, rfl, g1, _⟩ := t1.list
    obtain ⟨q2, ys, rfl, g2, _⟩ := t2.list
    exact ⟨q1, q2, xs, ys, rfl, .inl ⟨g1, g2, k _ H2 (k1.trans k2) r2 (yields_zipL t1 t2)⟩⟩
  · cases h3
    refine ⟨M, s, _, s1, rl, h1, fun v H1 k1 r1 t1 => ⟨M, s1, _, s2, r1, h2, fun w H2 k2 r2 t2 => ?_⟩⟩
    have t1 := t1.mono k2.kp
    obtain ⟨q1, xs, rfl, g1, _⟩ := t1.tuple
    obtain ⟨q2, ys, rfl, g2, _⟩ := t2.tuple
    exact ⟨q1, q2, xs, ys, rfl, .inr ⟨g1, g2, k _ H2 (k1.trans k2) r2 (yields_zipT t1 t2)⟩⟩
  · cases h3
theorem lift_forG {K : PySem.W.Frag} (hg : TgOk K g gd) {D : Ends} {σ : L2.St} {H : Hp} (h : lfS K Z (sFor ff gd f) D σ H) : tFor (lfIG K Z ff) g (lfS K Z f) D σ H := by
  obtain ⟨M, s, fl, rl, hf, k⟩ := h
  unfold sFor at hf
  simp only [Option.bind_eq_some_iff] at hf
  obtain ⟨⟨ds, s1⟩, h1, h2⟩ := hf
  dsimp only at h2
  refine ⟨M, s, ds, s1, rl, h1, fun J H1 k1 r1 y => ?_⟩
  refine ⟨fun i m σ' H' => m = ds.length - i ∧ i ≤ ds.length ∧ ∃ M' s', Kq Z M H1 M' H' ∧ Rel K Z M' σ' H' s' ∧ runFor gd f (ds.drop i) s' = some fl, ⟨ds.length, by simp, Nat.zero_le _, M, s1, Kq.refl _ _ _, r1, h2⟩, ?_⟩
  rintro i m σ' H' ⟨rfl, hi, M', s', k2, r2, h3⟩
  by_cases hlt : i < ds.length
  · have ed : ds.drop i = ds[i] :: ds.drop (i + 1) := List.drop_eq_getElem_cons hlt
    rw [ed] at h3
    unfold runFor at h3
    simp only [Option.bind_eq_some_iff] at h3
    obtain ⟨s2, e1, fl1, e2, e3⟩ := h3
    refine .inr ⟨((y _ _ k2.kp r2.muT i).1 hlt).1, fun σ3 H3 => ∃ M3 s3, Kq Z M H1 M3 H3 ∧ Rel K Z M3 σ3 H3 s3 ∧ runFor gd f (ds.drop (i + 1)) s3 = some fl, fun σ3 H3 q => ⟨ds.length - (i + 1), by omega, rfl, hlt, q⟩, fun x H'' hy => ?_⟩
    obtain ⟨gr, d, e4, e5⟩ := ((y _ _ k2.kp r2.muT i).1 hlt).2 x H'' hy
    rw [List.getElem?_eq_getElem hlt] at e4
    cases e4
    have kg : Kq Z M' H' M' H'' := kq_grow gr
    refine hg Z M' σ' H'' s' s2 x _ _ (r2.grow gr) e5 e1 fun M3 σ3 r3 k3 => ?_
    refine ⟨M3, s2, fl1, r3, e2, ?_⟩
    have kk : Kq Z M H M3 _ := k1.trans (k2.trans (kg.trans k3))
    cases fl1 with
    | nx s4 => exact fun M4 σ4 H4 k4 r4 => ⟨M4, s4, k2.trans (kg.trans (k3.trans k4)), r4, e3⟩
    | ct s4 => exact fun M4 σ4 H4 k4 r4 => ⟨M4, s4, k2.trans (kg.trans (k3.trans k4)), r4, e3⟩
    | bk s4 => cases e3; exact fun M4 σ4 H4 k4 r4 => k M4 σ4 H4 (kk.trans k4) r4
    | rt d4 s4 => cases e3; exact fun M4 σ4 H4 v4 k4 r4 t4 => k M4 σ4 H4 v4 (kk.trans k4) r4 t4
  · have e : i = ds.length := by omega
    subst e
    rw [List.drop_length] at h3
    cases h3
    exact .inl ⟨(y _ _ k2.kp r2.muT _).2 (Nat.le_refl _), k M' σ' H' (k1.trans k2) r2⟩
theorem sforG {iter : Expr} {body : List Stmt} (hp : PassesOwn (model X.prog X.w) X.A X.env X.xe) (hc : X.calm = true) (hi : PI X tg iter (lfIG X.K Z ff)) (hg : PG X tg g) (hgd : TgOk X.K g gd) (hb : PSs X body (lfS X.K Z f))
    (hs : ∀ x, foldedSetIterable iter X.env x = pure x := by intro _; rfl) : PS X (.For tg iter body [] pos) (lfS X.K Z (sFor ff gd f)) := PSimp (ps_for hp hc hi hg hb hs) fun _ _ _ h => lift_forG hgd h
end
end Dl

/-! ### comprehensions with several names -/
namespace Dl
open PySem PySem.Spec PyProof.Rows L2
def fgS (s : Sl) : List Nat → Sl
  | [] => s
  | j :: r => (fgS s r).set j .no
def noOwnB (js : List Nat) (s : Sl) : Bool := js.all fun j => notOwn s[j]?
theorem noOwnB_ne {js : List Nat} {s : Sl} (h : noOwnB js s = true) : ∀ j ∈ js, NoOwn s[j]? := fun j hj => notOwn_ne (List.all_eq_true.mp h j hj)
theorem fgS_len (s : Sl) : ∀ js, (fgS s js).length = s.length
  | [] => rfl
  | j :: r => by unfold fgS; rw [List.length_set, fgS_len s r]
theorem fgS_get (s : Sl) (i : Nat) : ∀ js : List Nat, (fgS s js)[i]? = if i ∈ js ∧ i < s.length then some .no else s[i]?
  | [] => by simp [fgS]
  | j :: r => by
    unfold fgS
    rw [List.getElem?_set, fgS_get s i r, fgS_len]
    by_cases e : j = i
    · subst e
      by_cases l : j < s.length
      · simp [l]
      · simp [l, List.getElem?_eq_none (by omega : s.length ≤ j)]
    · have : i ∈ j :: r ↔ i ∈ r := by simp [Ne.symm e]
      simp [e, this]
theorem fgS_idem (s : Sl) (js : List Nat) : fgS (fgS s js) js = fgS s js := by
  apply List.ext_getElem?
  intro i
  rw [fgS_get, fgS_get, fgS_len]
  split <;> rfl
theorem fgS_no {s : Sl} {js : List Nat} (h : ∀ j ∈ js, s[j]? = some .no) : fgS s js = s := by
  apply List.ext_getElem?
  intro i
  rw [fgS_get]
  split
  · rename_i q; rw [h i q.1]
  · rfl
theorem fgS_noOwn {s : Sl} {js : List Nat} {i : Nat} (h : NoOwn s[i]?) : NoOwn (fgS s js)[i]? := by
  rw [fgS_get]
  split
  · exact ⟨fun ds e => by simp at e, fun c e => by simp at e⟩
  · exact h
theorem fgS_mem {s : Sl} {js : List Nat} {i : Nat} (hi : i ∈ js) : NoOwn (fgS s js)[i]? := by
  rw [fgS_get]
  by_cases l : i < s.length
  · rw [if_pos ⟨hi, l⟩]; exact ⟨fun ds e => by simp at e, fun c e => by simp at e⟩
  · rw [if_neg (fun q => l q.2), List.getElem?_eq_none (by omega)]; exact ⟨fun ds e => (by cases e), fun c e => (by cases e)⟩
theorem wipe_get (σ : L2.St) (i : Nat) : ∀ js : List Nat, (wipe σ js)[i]? = if i ∈ js ∧ i < σ.length then some none else σ[i]?
  | [] => by simp [wipe]
  | j :: r => by
    unfold wipe
    rw [List.getElem?_set, wipe_get σ i r, wipe_length]
    by_cases e : j = i
    · subst e
      by_cases l : j < σ.length
      · simp [l]
      · simp [l, List.getElem?_eq_none (by omega : σ.length ≤ j)]
    · have : i ∈ j :: r ↔ i ∈ r := by simp [Ne.symm e]
      simp [e, this]
theorem wipe_idem (σ : L2.St) (js : List Nat) : wipe (wipe σ js) js = wipe σ js := by
  apply List.ext_getElem?
  intro i
  rw [wipe_get, wipe_get, wipe_length]
  split <;> rfl
theorem wipe_set {σ : L2.St} {js : List Nat} {i : Nat} {x : Option V} (hi : i ∈ js) : wipe (σ.set i x) js = wipe σ js := by
  apply List.ext_getElem?
  intro k
  rw [wipe_get, wipe_get, List.length_set]
  by_cases e : i = k
  · subst e
    by_cases l : i < σ.length
    · simp [hi, l]
    · simp [l, List.getElem?_eq_none (by omega : σ.length ≤ i)]
  · rw [List.getElem?_set_ne e]
section
variable {K : PySem.W.Frag} {mu : Addr → Prop} {q : List Addr} {H : Hp}
theorem SlAll.fg {σ : L2.St} {s : Sl} {M : List Addr} (t : SlAll K mu q H σ s M) : ∀ js : List Nat, (∀ j ∈ js, NoOwn s[j]?) → SlAll K mu q H (wipe σ js) (fgS s js) M
  | [], _ => t
  | j :: r, h => by
    unfold wipe fgS
    exact (SlAll.fg t r fun i hi => h i (List.mem_cons_of_mem _ hi)).forget j (fgS_noOwn (h j List.mem_cons_self))
theorem set_join (σ : L2.St) (j : Nat) : σ.set j (σ[j]?.join) = σ := by
  apply List.ext_getElem?
  intro i'
  by_cases e : i' = j
  · subst e
    by_cases hl : i' < σ.length
    · rw [List.getElem?_set_self hl, List.getElem?_eq_getElem hl]; rfl
    · rw [List.getElem?_eq_none (by simpa using hl), List.getElem?_eq_none (by simpa using hl)]
  · rw [List.getElem?_set_ne (Ne.symm e)]
theorem SlAll.unfg {σ : L2.St} {s : Sl} {M : List Addr} : ∀ js : List Nat, (∀ j ∈ js, j < s.length → s[j]? = some .no) → SlAll K mu q H (wipe σ js) s M → SlAll K mu q H σ s M
  | [], _, t => t
  | j :: r, h, t => by
    unfold wipe at t
    have ln : (wipe σ r).length = s.length := by rw [← t.len, List.length_set]
    refine SlAll.unfg r (fun i hi => h i (List.mem_cons_of_mem _ hi)) ?_
    by_cases l : j < s.length
    · have t2 := t.anyNo (x := (wipe σ r)[j]?.join) j (h j List.mem_cons_self l)
      rw [List.set_set, set_join] at t2
      exact t2
    · rw [List.set_eq_of_length_le (by omega)] at t
      exact t
end
/-! targets that write just these slots -/
def TgW (K : PySem.W.Frag) (js : List Nat) (g : TG) (gd : PyData → Sl → Option Sl) : Prop := ∀ (Z : Par) (M : List Addr) (σ : L2.St) (H : Hp) (s s' : Sl) (x : V) (d : PyData) (Q : L2.St → Hp → Prop), Rel K Z M σ H s → (∀ j ∈ js, NoOwn s[j]?) → Dt K (Mu Z M) H x d → gd d s = some s' →
  (∀ σ', wipe σ' js = wipe σ js → (∀ j ∈ js, NoOwn s'[j]?) → Rel K Z M σ' H s' → Q σ' H) → g x σ H Q
def TgsW (K : PySem.W.Frag) (js : List Nat) (g : TGs) (gd : List PyData → Sl → Option Sl) : Prop := ∀ (Z : Par) (M : List Addr) (σ : L2.St) (H : Hp) (s s' : Sl) (xs : List V) (ds : List PyData) (Q : L2.St → Hp → Prop), Rel K Z M σ H s → (∀ j ∈ js, NoOwn s[j]?) → DtAll K (Mu Z M) H xs ds → gd ds s = some s' →
  (∀ σ', wipe σ' js = wipe σ js → (∀ j ∈ js, NoOwn s'[j]?) → Rel K Z M σ' H s' → Q σ' H) → g xs σ H Q
section
variable {K : PySem.W.Frag} {js : List Nat}
theorem wgn {i : Nat} (hi : i ∈ js := by decide) : TgW K js (gName i) (tgN i) := fun Z M σ H s s' x d Q r no t e k => by
  cases e
  refine k _ (wipe_set hi) (fun j hj => ?_) (r.withSl (r.sl.putDat t i (no i hi)))
  by_cases e : i = j
  · subst e
    by_cases l : i < s.length
    · rw [List.getElem?_set_self l]; exact ⟨fun ds e => (by simp at e), fun c e => (by simp at e)⟩
    · rw [List.getElem?_eq_none (by simpa using l)]; exact ⟨fun ds e => (by cases e), fun c e => (by cases e)⟩
  · rw [List.getElem?_set_ne e]; exact no j hj
theorem wgsnil : TgsW K js gNil (tgTs []) := fun Z M σ H s s' xs ds Q r no t e k => by
  cases ds with
  | nil => cases t; cases e; exact ⟨rfl, k σ rfl no r⟩
  | cons _ _ => cases e
theorem wgscons {g : TG} {gs : TGs} {gd : PyData → Sl → Option Sl} {gds : List (PyData → Sl → Option Sl)} (h : TgW K js g gd) (hs : TgsW K js gs (tgTs gds)) : TgsW K js (gCons g gs) (tgTs (gd :: gds)) := fun Z M σ H s s' xs ds Q r no t e k => by
  cases ds with
  | nil => cases e
  | cons d ds =>
    cases t with
    | cons t1 t2 =>
      unfold tgTs at e
      simp only [Option.bind_eq_some_iff] at e
      obtain ⟨s1, e1, e2⟩ := e
      exact ⟨_, _, rfl, h Z M σ H s s1 _ d _ r no t1 e1 fun σ1 w1 no1 r1 => hs Z M σ1 H s1 s' _ ds _ r1 no1 t2 e2 fun σ2 w2 no2 r2 => k σ2 (w2.trans w1) no2 r2⟩
theorem wgt {n : Nat} {gs : TGs} {gds : List (PyData → Sl → Option Sl)} (hn : n = gds.length) (hs : TgsW K js gs (tgTs gds)) : TgW K js (gTup K n gs) (tgT gds) := fun Z M σ H s s' x d Q r no t e k => by
  unfold tgT at e
  split at e
  · rename_i ds
    obtain ⟨a, xs, rfl, h1, h2⟩ := t.tuple
    exact ⟨a, xs, rfl, h1, by rw [h2.len, tgTs_len e, hn], hs Z M σ H s s' xs ds Q r no h2 e k⟩
  · cases e
end
def lcRunT (js : List Nat) (gd : PyData → Sl → Option Sl) (t : DT) (f : DE) : List PyData → Sl → Option (List PyData × Sl)
  | [], s => some ([], fgS s js)
  | d :: r, s => (gd d (fgS s js)).bind fun s0 => (t s0).bind fun p => if noOwnB js p.2 = true then (if p.1 = true then (f p.2).bind fun q => if noOwnB js q.2 = true then (lcRunT js gd t f r q.2).map fun w => (q.1 :: w.1, w.2) else none else lcRunT js gd t f r p.2) else none
/-- the comprehension's slots js; what a turn leaves there is forgotten -/
def fLcT (fi : DF) (js : List Nat) (gd : PyData → Sl → Option Sl) (t : DT) (f : DE) : DF := fun s => (fi s).bind fun p => if (js.all fun j => isNo p.2[j]?) = true ∧ p.1.length < sizeLine then lcRunT js gd t f p.1 p.2 else none
section
variable {X : Cx} {Z : Par} {tg a b e : Expr} {es : List Expr} {pos : Pos} {fa fb fc : DE} {ff : DF} {t : DT} {g : TG} {gd : PyData → Sl → Option Sl}
theorem lift_lcT {K : PySem.W.Frag} {js : List Nat} {σ : L2.St} {H : Hp} {Q : VK} {T : TT} {E : TE} (hT : ∀ Z σ H Q, lfT K Z t σ H Q → T σ H Q) (hE : ∀ Z σ H Q, lft K Z fa σ H Q → E σ H Q) (hgd : TgW K js g gd) (h : lfF K Z (fLcT ff js gd t fa) σ H Q) : tLc (lfIG K Z ff) g T E js σ H Q := by
  obtain ⟨M, s, ds, s', rl, hf, k⟩ := h
  unfold fLcT at hf
  simp only [Option.bind_eq_some_iff] at hf
  obtain ⟨⟨is, s1⟩, h1, h2⟩ := hf
  dsimp only at h2
  split at h2
  case isFalse => cases h2
  rename_i hc
  have hno : ∀ j ∈ js, s1[j]? = some .no := fun j hj => isNo_eq (List.all_eq_true.mp hc.1 j hj)
  refine ⟨M, s, is, s1, rl, h1, fun J H1 k1 r1 y D hD => ?_⟩
  have hD0 : H D = none := by
    cases q : H D with
    | none => rfl
    | some o =>
      by_cases m : Mu Z M D
      · obtain ⟨u, e⟩ := r1.muT D m
        rw [hD] at e; cases e
      · have := (k1.kp D o q m).1
        rw [hD] at this; cases this
  have npp : D ∉ Z.p := fun z => by
    obtain ⟨o, e⟩ := r1.pt D z
    rw [hD] at e; cases e
  have n0 : Z.H0 D = none := by
    cases q : Z.H0 D with
    | none => rfl
    | some o =>
      have := r1.base D o q npp
      rw [hD] at this; cases this
  let Kd : Hp → Prop := fun H' => ∀ a o, H1 a = some o → a ∉ Z.p → a ∉ M → H' a = some o
  have kdy : ∀ {H'}, Kd H' → Kp (Mu Z M) H1 (Mu (Z.add D) M) H' := fun {H'} q a o e n => ⟨q a o e (fun z => n (.inr (.inl z))) (fun z => n (.inr (.inr z))), fun z => (mu_add.mp z).elim n (ne_of_none e hD)⟩
  let Wv : Nat → Hp → Prop := fun i H' => ∃ sw acc dacc rest, Kd H' ∧ Rel K (Z.add D) M (wipe σ js) H' (fgS sw js) ∧
    H' D = some (.lst acc) ∧ DtAll K (Mu (Z.add D) M) H' acc dacc ∧ dacc.length ≤ i ∧ lcRunT js gd t fa (is.drop i) sw = some (rest, s') ∧ ds = dacc ++ rest
  refine ⟨fun i m H' => m = is.length - i ∧ i ≤ is.length ∧ Wv i H', ⟨is.length, by simp, Nat.zero_le _, s1, [], [], ds, fun a o e _ _ => grow_new hD a o e, ?_, upd_same, .nil, Nat.le_refl _, h2, rfl⟩, ?_⟩
  · have q := r1.addNew hD (.lst [])
    exact q.withSl (q.sl.fg js fun j hj => ⟨fun ds e => (by rw [hno j hj] at e; cases e), fun c e => (by rw [hno j hj] at e; cases e)⟩)
  rintro i m H' ⟨rfl, hi, sw, acc, dacc, rest, k2, r2, e1, e2, e3, e4, e5⟩
  by_cases hlt : i < is.length
  · have ed : is.drop i = is[i] :: is.drop (i + 1) := List.drop_eq_getElem_cons hlt
    rw [ed] at e4
    unfold lcRunT at e4
    simp only [Option.bind_eq_some_iff] at e4
    obtain ⟨s0, e0, ⟨b, s3⟩, e6, e7⟩ := e4
    dsimp only at e7
    split at e7
    case isFalse => cases e7
    rename_i n3
    have yy := y _ _ (kdy k2) r2.muT i
    refine .inr ⟨(yy.1 hlt).1, Wv (i + 1), fun H3 q => ⟨is.length - (i + 1), by omega, rfl, hlt, q⟩, fun x H'' hy => ?_⟩
    obtain ⟨gr, d, e8, e9⟩ := (yy.1 hlt).2 x H'' hy
    rw [List.getElem?_eq_getElem hlt] at e8
    cases e8
    have k2 : Kd H'' := fun a o e n1 n2 => gr a o (k2 a o e n1 n2)
    have e1 : H'' D = some (.lst acc) := gr _ _ e1
    have e2 := e2.mono (kp_grow (mu := Mu (Z.add D) M) gr)
    refine hgd (Z.add D) M _ H'' _ s0 x _ _ (r2.grow gr) (fun j hj => fgS_mem hj) e9 e0 fun σ3 w3 no3 r3 => ?_
    rw [wipe_idem] at w3
    refine ⟨w3, ?_⟩
    have back : ∀ {H4 : Hp} {s4 : Sl}, Rel K (Z.add D) M σ3 H4 s4 → (∀ j ∈ js, NoOwn s4[j]?) → Rel K (Z.add D) M (wipe σ js) H4 (fgS s4 js) := fun {H4 s4} r4 hs4 => by
      have q := r4.sl.fg js hs4
      rw [w3] at q
      exact r4.withSl q
    refine hT (Z.add D) _ _ _ ⟨M, _, b, s3, r3, e6, fun H4 k4 r4 => ?_⟩
    have nDM : D ∉ M := fun z => by
      obtain ⟨_, _, _, o, e⟩ := r1.fr D z
      rw [hD] at e; cases e
    have eD4 : H4 D = some (.lst acc) := (k4 D _ e1 npp nDM).1
    have kd4 : Kd H4 := fun a o e n1 n2 => (k4 a o (k2 a o e n1 n2) n1 n2).1
    cases b with
    | true =>
      rw [if_pos rfl] at e7
      simp only [Option.bind_eq_some_iff] at e7
      obtain ⟨⟨d2, s4⟩, e10, e11⟩ := e7
      dsimp only at e11
      split at e11
      case isFalse => cases e11
      rename_i n4
      simp only [Option.map_eq_some_iff] at e11
      obtain ⟨⟨w, s5⟩, e11, e12⟩ := e11
      cases e12
      refine iteT ?_
      refine hE (Z.add D) _ _ _ ⟨M, s3, d2, s4, r4, e10, fun v H5 k5 r5 t5 => ?_⟩
      have eD5 : H5 D = some (.lst acc) := (k5 D _ eD4 npp nDM).1
      have nm : Mu (Z.add D) M D := .inl (.inr rfl)
      have kw : Kp (Mu (Z.add D) M) H5 (Mu (Z.add D) M) (upd H5 D (.lst (acc ++ [v]))) := fun a u e n => ⟨by
        have na : a ≠ D := fun z => n (by rw [z]; exact nm)
        rw [upd_ne na]; exact e, n⟩
      have lacc := e2.len
      refine ⟨acc, eD5, by omega, s4, acc ++ [v], dacc ++ [d2], w, fun a o e n1 n2 => ?_, (back r5 (noOwnB_ne n4)).wrAdd npp _ n0, upd_same, ((e2.mono (k4.kp.trans k5.kp)).append (.cons t5 .nil)).mono kw, by rw [List.length_append]; exact Nat.succ_le_succ e3, e11, by rw [e5, List.append_assoc]; rfl⟩
      have na : a ≠ D := ne_of_none e hD
      rw [upd_ne na]
      exact (k5 a o (kd4 a o e n1 n2) n1 n2).1
    | false =>
      rw [if_neg (by simp)] at e7
      refine iteF ?_
      exact ⟨s3, acc, dacc, rest, kd4, back r4 (noOwnB_ne n3), eD4, e2.mono k4.kp, by omega, e7, e5⟩
  · have e : i = is.length := by omega
    subst e
    rw [List.drop_length] at e4
    cases e4
    rw [List.append_nil] at e5
    subst e5
    refine .inl ⟨(y _ _ (kdy k2) r2.muT _).2 (Nat.le_refl _), ?_⟩
    have r3 : Rel K (Z.add D) M σ H' (fgS sw js) := r2.withSl (r2.sl.unfg js fun j hj l => by
      rw [fgS_len] at l
      rw [fgS_get, if_pos ⟨hj, l⟩])
    exact k D acc H' hD0 e1 (fun a o e n1 n2 => ⟨k2 a o (k1 a o e n1 n2).1 n1 n2, n2⟩) r3 e2
theorem flcT {elt iter : Expr} {ifs : List Expr} {scope : Scope} {own : List (Str × Nat)} {js : List Nat} (hc : X.calm = true) (hN : X.N.Nodup) (hi : PI X tg iter (lfIG X.K Z ff)) (ok : BlkOk X.N X.env.scope scope own)
    (hg : ∀ (s : Shared) (H : Hp) (C : Addr) (cl : List (Str × Addr)) (fp : List Addr), PG (X.blk s H scope (compEnvC scope cl C X.env) fp) tg g) (hgd : TgW X.K js g gd)
    (ht : ∀ (s : Shared) (H : Hp) (C : Addr) (cl : List (Str × Addr)) (fp : List Addr) (Z : Par), PTs (X.blk s H scope (compEnvC scope cl C X.env) fp) ifs (lfT X.K Z t))
    (he : ∀ (s : Shared) (H : Hp) (C : Addr) (cl : List (Str × Addr)) (fp : List Addr) (Z : Par), PE (X.blk s H scope (compEnvC scope cl C X.env) fp) elt (lft X.K Z fa)) (hs : ∀ x, foldedSetIterable iter X.env x = pure x := by intro _; rfl) (hjs : own.map (·.2) = js := by rfl) :
    PE X (.ListComp elt [⟨tg, iter, ifs, 0⟩] scope pos) (lfF X.K Z (fLcT ff js gd t fa)) := by
  subst hjs
  exact PEimp (pe_lc hc hN hi ok hg (tt := fun σ H Q => ∃ Z, lfT X.K Z t σ H Q) (te := fun σ H Q => ∃ Z, lft X.K Z fa σ H Q)
    (fun s H0 C cl fp => ⟨fun pins s' σ H Q I ⟨Z, q⟩ => (ht s H0 C cl fp Z).run pins s' σ H Q I q⟩) (fun s H0 C cl fp => ⟨fun pins s' σ H Q I ⟨Z, q⟩ => (he s H0 C cl fp Z).run pins s' σ H Q I q⟩) hs) fun σ H Q h => lift_lcT (fun Z _ _ _ q => ⟨Z, q⟩) (fun Z _ _ _ q => ⟨Z, q⟩) hgd h
theorem ssetLcT {i : Nat} {y : Str} {py : Pos} {elt iter : Expr} {ifs : List Expr} {scope : Scope} {own : List (Str × Nat)} {js : List Nat} {spos : Pos} (hc : X.calm = true) (hN : X.N.Nodup) (hy : X.N[i]? = some y) (hyl : X.env.scope.names.lookup y = some .local)
    (hsw : swapsWith (.ListComp elt [⟨tg, iter, ifs, 0⟩] scope pos) (some (.Name y py)) spos.line X.env = pure true) (hi : PI X tg iter (lfIG X.K Z ff)) (ok : BlkOk X.N X.env.scope scope own)
    (hg : ∀ (s : Shared) (H : Hp) (C : Addr) (cl : List (Str × Addr)) (fp : List Addr), PG (X.blk s H scope (compEnvC scope cl C X.env) fp) tg g) (hgd : TgW X.K js g gd)
    (ht : ∀ (s : Shared) (H : Hp) (C : Addr) (cl : List (Str × Addr)) (fp : List Addr) (Z : Par), PTs (X.blk s H scope (compEnvC scope cl C X.env) fp) ifs (lfT X.K Z t))
    (he : ∀ (s : Shared) (H : Hp) (C : Addr) (cl : List (Str × Addr)) (fp : List Addr) (Z : Par), PE (X.blk s H scope (compEnvC scope cl C X.env) fp) elt (lft X.K Z fa)) (hs : ∀ x, foldedSetIterable iter X.env x = pure x := by intro _; rfl) (hjs : own.map (·.2) = js := by rfl) :
    PS X (.Assign [.Name y py] (.ListComp elt [⟨tg, iter, ifs, 0⟩] scope pos) spos) (lfS X.K Z (sSet i (dL (fLcT ff js gd t fa)))) := by
  subst hjs
  exact PSimp (ps_setLc hc hN hy hyl hsw hi ok hg (tt := fun σ H Q => ∃ Z, lfT X.K Z t σ H Q) (te := fun σ H Q => ∃ Z, lft X.K Z fa σ H Q)
    (fun s H0 C cl fp => ⟨fun pins s' σ H Q I ⟨Z, q⟩ => (ht s H0 C cl fp Z).run pins s' σ H Q I q⟩) (fun s H0 C cl fp => ⟨fun pins s' σ H Q I ⟨Z, q⟩ => (he s H0 C cl fp Z).run pins s' σ H Q I q⟩) hs) fun D σ H h => by
    obtain ⟨M, s, fl, rl, h1, k⟩ := h
    unfold sSet dL at h1
    simp only [Option.map_eq_some_iff] at h1
    obtain ⟨⟨d, s1⟩, ⟨⟨ds, s2⟩, h1, h3⟩, h2⟩ := h1
    cases h3
    cases h2
    refine lift_lcT (Z := Z) (t := t) (fa := fa) (ff := ff) (K := X.K) (σ := σ) (H := H) (Q := fun x H1 => gName i x σ H1 D.nx) (fun Z _ _ _ q => ⟨Z, q⟩) (fun Z _ _ _ q => ⟨Z, q⟩) hgd ⟨M, s, ds, _, rl, h1, fun p xs H' hp hx k1 r1 t1 => ?_⟩
    have td : Dt X.K (Mu Z M) H' (.ref p) (.list ds) := .lst (.inl hx) (fun q => by
      obtain ⟨o, e⟩ := rl.muT p q
      rw [hp] at e; cases e) (t1.mono kp_drop)
    obtain ⟨M', _, r2, k2⟩ := r1.unadd.setDat td i
    exact k M' _ H' (k1.trans k2) r2
end
end Dl

/-! ### enumerate of a tuple -/
namespace PySem
open Sem (wp)
theorem enum_new1 {v : Value} {o : Obj} {Hh : Heap → Prop} (B : Begins v o Hh) :
    Meets (Builtin.«enumerate.__new__» ⟨[.type "enumerate", v], []⟩) (fun _ R t => Hh t.heap ∧
      R (.ok (.ret (.ref (t.heap.push o).objs.size))) { t with heap := (t.heap.push o).push { cls := .type "enumerate", data := .fields #[.none, .bool false, .ref t.heap.objs.size, rawInt 0, .none, .none] } }) :=
  .of_wp fun prog w A R t q => by
    obtain ⟨hp, g, d, tk, os⟩ := t
    obtain ⟨q1, q⟩ := q
    have sub := sub_enumerate
    have go : ∀ {A' : Around} {E : Value → Shared → Prop} {Q : Value → Shared → Prop}, Q (.ref hp.objs.size) ⟨hp.push o, g, d, tk, os⟩ → wpAny (model prog w) A' (pyIter v) Q E ⟨hp, g, d, tk, os⟩ :=
      fun z => B.iter prog w _ _ ⟨hp, g, d, tk, os⟩ _ q1 z
    wp_walk using go
    refine wpAny_stack_any fun st => wpAny_pure ?_
    split
    · rename_i c _ _ _ _ _
      cases (c == Value.type "enumerate")
      · wp_walk using go
        exact ⟨_, rfl, q⟩
      · wp_walk using go
        exact ⟨_, rfl, q⟩
    · wp_walk using go
      exact ⟨_, rfl, q⟩
section
variable {prog : Program} {w : World} {A : Around} {E : Value → Shared → Prop} {t : Shared}
theorem call_enum1 {v : Value} {o : Obj} {Hh : Heap → Prop} {Q : Value → Shared → Prop} (B : Begins v o Hh) (h1 : Hh t.heap)
    (h : ∀ h', IsEnum h' (t.heap.objs.size + 1) t.heap.objs.size 0 .none → h'.get? t.heap.objs.size = some o → h'.objs.size = t.heap.objs.size + 2 →
      (∀ b u, t.heap.get? b = some u → h'.get? b = some u) → Q (.ref (t.heap.objs.size + 1)) { t with heap := h' }) :
    wpAny (model prog w) A (call (.type "enumerate") [v]) Q E t := by
  refine callType_new F.called_enumerate (by decide) (F.typeCall_enumerate_1 _) (F.newCall_enumerate_1 _) (fun obj => F.args_object_init_2 obj _) F.entry_enumerate_new (enum_new1 B) ⟨h1, ?_⟩
  have sz : (t.heap.push o).objs.size = t.heap.objs.size + 1 := Heap.size_push ..
  show _ ∧ _
  rw [sz]
  have en : IsEnum ((t.heap.push o).push { cls := .type "enumerate", data := .fields #[.none, .bool false, .ref t.heap.objs.size, rawInt 0, .none, .none] }) (t.heap.objs.size + 1) t.heap.objs.size 0 .none := by
    have q := Heap.get?_push_size (t.heap.push o) (o := { cls := .type "enumerate", data := .fields #[.none, .bool false, .ref t.heap.objs.size, rawInt 0, .none, .none] }) rfl
    rw [sz] at q; exact q
  exact ⟨⟨_, en, rfl⟩, h _ en (Heap.get?_push_of_some _ (Heap.get?_push_size _ B.free)) (by rw [Heap.size_push, sz]) fun b u x => Heap.get?_push_of_some _ (Heap.get?_push_of_some _ x)⟩
end
end PySem
namespace Dl
open PySem PySem.Spec PyProof.Rows L2
def IteT (K : PySem.W.Frag) (a : Addr) : It :=
  ⟨fun i H => ∃ (xs : List V) (x : V), SqT K H a xs ∧ xs[i]? = some x, fun i H v H' => ∃ T x, v = .ref T ∧ H T = none ∧ H' = upd H T (.tup [.int (i : Nat), x]) ∧ ∀ xs, SqT K H a xs → xs[i]? = some x, fun i H => ∃ xs : List V, SqT K H a xs ∧ xs.length ≤ i⟩
theorem turn_enumT {P : Program} {w : World} {K : PySem.W.Frag} {elts : List Expr} {kk : Nat} {tpos : Pos} (a e it : Addr) :
    Turn P w K (.Tuple elts kk tpos) (IteT K a) [e, it] e (fun i h => (∃ old, IsEnum h e it ((i : Nat) : Int) old) ∧ h.IsTupleIter it a i ∧ e ≠ it ∧ a ≠ it ∧ a ≠ e) where
  mem := by simp
  obj := fun i h st b hb => by
    obtain ⟨⟨old, he⟩, ⟨o, ho, hc, hd⟩, _⟩ := st
    have e' : b = e ∨ b = it := by simpa using hb
    rcases e' with rfl | rfl
    · exact ⟨_, he, fun v z => nomatch z⟩
    · exact ⟨o, ho, fun v z => by rw [hd] at z; cases z⟩
  keep := fun i h h' st k => by
    obtain ⟨⟨old, he⟩, hi, ne⟩ := st
    exact ⟨⟨old, k e (by simp) _ he⟩, hi.at fun o z => k it (by simp) o z, ne⟩
  item := by
    intro X hP hw hK hc i pins s σ H E I hf st hg
    subst hP hw hK
    obtain ⟨⟨old, he⟩, hit, ne, na, nb⟩ := st
    obtain ⟨xs, x, hq, hx⟩ := hg
    obtain ⟨its, rv, p, _⟩ := I.tuple hq
    obtain ⟨u, hu, ru⟩ := rv.get hx
    have lu : i < its.toArray.size := by
      have := (List.getElem?_eq_some_iff.mp hu).1
      simpa using this
    have el : e < s.heap.objs.size := Heap.lt_size he
    have il : it < s.heap.objs.size := by obtain ⟨_, z, _⟩ := hit; exact Heap.lt_size z
    refine wpAny_pyNext_enum_itemC (Draws.tuple (by exact I.ok.hd hc) it a na its.toArray) he ⟨hit, p⟩ lu ne (by simp; exact ⟨ne, fun z => nb z.symm⟩) fun y h' tk hy ho st' hT sz k => ?_
    have ey : y = u := by
      have h1 : its.toArray[i]? = some y := hy
      have h2 : its.toArray[i]? = some u := by simpa using hu
      rw [h1] at h2
      exact Option.some.inj h2
    subst ey
    refine ⟨_, rfl, wpAny_letOwnedTupleGo_enum (s := { s with heap := h', toks := tk + 1 }) ho fun h'' he' sb => ?_⟩
    have hT2 : h''.get? s.heap.objs.size = some { cls := .type "tuple", data := .seq #[.int i tk, y] } := (sb.2 _ (Nat.ne_of_gt el)).trans hT
    have new : ObjOk X.prog X.w (upd H s.heap.objs.size (.tup [.int (i : Nat), x])) h'' s.heap.objs.size (.tup [.int (i : Nat), x]) :=
      ⟨by show 2 ≤ sizeLine; decide, [.int i tk, y], .cons ⟨_, rfl⟩ (.cons ru .nil), ⟨_, hT2, rfl, _, rfl⟩⟩
    have I1 : Inv X pins σ (upd H s.heap.objs.size (.tup [.int (i : Nat), x])) { s with heap := h'', toks := tk + 1 } :=
      I.turnedNew (ch := [e, it]) (fun b ob hb z => (sb.2 b (fun z => hb (by simp [z]))).trans (k b ob (fun z => hb (by simp [z])) (fun z => hb (by simp [z])) z)) hf (Nat.le_refl _) new
    refine ⟨.ref s.heap.objs.size, _, I1, rfl, ⟨_, x, rfl, I.hok.fresh (Nat.le_refl _), rfl, fun ys hy => by rw [I.tuple_inj hy hq]; exact hx⟩, ⟨⟨y, ?_⟩, st'.1.at fun o z => (sb.2 it (Ne.symm ne)).trans z, ne, na, nb⟩, fun b hb => ?_⟩
    · have e1 : ((i + 1 : Nat) : Int) = (i : Int) + 1 := by omega
      rw [e1]; exact he'
    · have hb' : b < s.heap.objs.size := by
        have e' : b = e ∨ b = it := by simpa using hb
        rcases e' with rfl | rfl
        · exact el
        · exact il
      rw [upd_ne (Nat.ne_of_lt hb')]
      exact (hf b hb).1
  done := by
    intro X hP hw hK hc i pins s σ H E I hf st hg
    subst hP hw hK
    obtain ⟨⟨old, he⟩, hit, ne, na, nb⟩ := st
    obtain ⟨xs, hq, hx⟩ := hg
    obtain ⟨its, rv, p, _⟩ := I.tuple hq
    obtain ⟨f0, f1, f2, f3, f4, f5⟩ := hf it (by simp)
    have hl := rv.length
    have ty : s.TypeIs (.ref e) "enumerate" := ⟨_, he, rfl⟩
    unfold pyNext
    refine wpAny_bind (wpAny_attempt (wpAny_callSpecial?_slot (name := Str.ofString "__next__") ty F.slot_enumerate_next (wpAny_call_entry F.slot_enumerate_next ty F.entry_enumerate_next ?_ (F.args_enumerate_next_1 _))))
    show wpAny _ _ (field (.ref e) 2 >>= _) _ _ _
    refine wpAny_bind (wpAny_field he rfl (x := .ref it) rfl (wpAny_bind (wpAny_nextOf_tuple_end (by exact I.ok.hd hc) hit p (by simp; omega) fun h' x eb stp => ?_)))
    obtain ⟨o, so, sc⟩ := stp
    refine wpAny_bind (wpAny_isInstance (T := "StopIteration") (b := true) ⟨o, so, sc⟩ isSubtype_stop (wpAny_pure ?_))
    exact ⟨rfl, I.turned (t' := s.toks) (fun b o hb q => eb b o hb q) f0 f1 f3 f4 f5⟩
  self := fun A i s Q E st h => let ⟨⟨_, he⟩, _⟩ := st; wpAny_pyIter_enum he h
theorem yields_enumT {K : PySem.W.Frag} {mu : Addr → Prop} {H : Hp} {p : Addr} {a : List PyData} (t : Dt K mu H (.ref p) (.tuple a)) : YieldsG K mu H (IteT K p) (List.zipWith (fun x y => .tuple [x, y]) ((List.range a.length).map fun (k : Nat) => .int (k : Int)) a) := fun mu' H' k hm i => by
  obtain ⟨_, xs, e1, h1, h2⟩ := (t.mono k).tuple
  cases e1
  have li : ∀ n, DtAll K mu' H' ((List.range n).map fun (k : Nat) => .int (k : Int)) ((List.range n).map fun (k : Nat) => .int (k : Int)) := fun n => by
    have : ∀ ks : List Nat, DtAll K mu' H' (ks.map fun (k : Nat) => .int (k : Int)) (ks.map fun (k : Nat) => .int (k : Int)) := fun ks => by
      induction ks with
      | nil => exact .nil
      | cons a r ih => exact .cons (.int _) ih
    exact this _
  refine ⟨fun hi => ?_, fun hi => ?_⟩
  · have hi' := hi
    rw [List.length_zipWith, List.length_map, List.length_range] at hi'
    obtain ⟨x, g1, _⟩ := h2.get (List.getElem?_eq_getElem (show i < a.length by omega))
    refine ⟨⟨xs, x, h1, g1⟩, fun v H'' hy => ?_⟩
    obtain ⟨T, x, e1, e2, e3, e4⟩ := hy
    refine yields_pair (li a.length) h2 hm hi ⟨T, .int (i : Nat), x, e1, e2, e3, ?_, e4 xs h1⟩
    rw [List.getElem?_map, List.getElem?_range (by omega)]
    rfl
  · rw [List.length_zipWith, List.length_map, List.length_range] at hi
    exact ⟨xs, h1, by rw [h2.len]; omega⟩
theorem yields_enumL {K : PySem.W.Frag} {mu : Addr → Prop} {H : Hp} {p : Addr} {a : List PyData} (t : Dt K mu H (.ref p) (.list a)) : YieldsG K mu H (Ite K p) (List.zipWith (fun x y => .tuple [x, y]) ((List.range a.length).map fun (k : Nat) => .int (k : Int)) a) := fun mu' H' k hm i => by
  obtain ⟨_, xs, e1, h1, h2⟩ := (t.mono k).list
  cases e1
  have li : ∀ ks : List Nat, DtAll K mu' H' (ks.map fun (k : Nat) => .int (k : Int)) (ks.map fun (k : Nat) => .int (k : Int)) := fun ks => by
    induction ks with
    | nil => exact .nil
    | cons a r ih => exact .cons (.int _) ih
  refine ⟨fun hi => ?_, fun hi => ?_⟩
  · have hi' := hi
    rw [List.length_zipWith, List.length_map, List.length_range] at hi'
    obtain ⟨x, g1, _⟩ := h2.get (List.getElem?_eq_getElem (show i < a.length by omega))
    refine ⟨⟨xs, x, h1, g1⟩, fun v H'' hy => ?_⟩
    obtain ⟨T, x, e1, e2, e3, e4⟩ := hy
    refine yields_pair (li _) h2 hm hi ⟨T, .int (i : Nat), x, e1, e2, e3, ?_, e4 xs h1⟩
    rw [List.getElem?_map, List.getElem?_range (by omega)]
    rfl
  · rw [List.length_zipWith, List.length_map, List.length_range] at hi
    exact ⟨xs, h1, by rw [h2.len]; omega⟩
/-- enumerate of a list or a tuple -/
def iEnumA (K : PySem.W.Frag) (ta : TA) : TI := fun σ H R => ta σ H fun vs H1 => ∃ a xs, vs = [.ref a] ∧ ((SqL K H1 a xs ∧ R (Ite K a) H1) ∨ (SqT K H1 a xs ∧ R (IteT K a) H1))
theorem pi_enumA {X : Cx} {e : Expr} {ta : TA} {p pos tpos : Pos} {elts : List Expr} {kk : Nat} (hg : Gl X "enumerate") (hm : X.mg "enumerate" = none) (ha : PA X [e] ta) (hs : starEach [e] X.env = [(false, eval e X.env)]) :
    PI X (.Tuple elts kk tpos) (.Call (.Name "enumerate" p) [e] [] pos) (iEnumA X.K ta) := by
  refine ⟨fun pins s σ H R I h => Call_ (ld_blt I hg hm boot_enumerate (PyProof.Rows.callWith_type1 (thn (ha.run pos pins s σ H _ I h) fun us s1 ⟨vs, H1, I1, r1, q1⟩ => ?_) hs rfl))⟩
  obtain ⟨a, xs, rfl, q1⟩ := q1
  cases r1 with
  | cons r rr =>
    cases rr
    cases r
    have fp : ∀ b ∈ [s1.heap.objs.size + 1, s1.heap.objs.size], s1.heap.objs.size ≤ b := fun b hb => by
      simp only [List.mem_cons, List.not_mem_nil, or_false] at hb
      rcases hb with rfl | rfl <;> omega
    rcases q1 with ⟨hq, q⟩ | ⟨hq, q⟩
    · obtain ⟨its, rv, p', hz⟩ := I1.list hq
      refine call_enumerate_list p'.isList fun h' he hit hsz hk => wpAny_pyIter_enum he ?_
      exact ⟨s1.heap.objs.size + 1, [s1.heap.objs.size + 1, s1.heap.objs.size], _, _, H1, rfl, I1.kept (t' := s1.toks) hk, turn_enum a (s1.heap.objs.size + 1) s1.heap.objs.size, ⟨⟨.none, he⟩, hit, Nat.succ_ne_self _⟩, fun b hb => I1.fpOk (fp b hb) (I1.hok.fresh (fp b hb)), q⟩
    · obtain ⟨its, rv, p', hz⟩ := I1.tuple hq
      have la : a < s1.heap.objs.size := by obtain ⟨o, e, _⟩ := p'; exact Heap.lt_size e
      refine call_enum1 (begins_tuple a its.toArray) p' fun h' he hit hsz hk => wpAny_pyIter_enum he ?_
      exact ⟨s1.heap.objs.size + 1, [s1.heap.objs.size + 1, s1.heap.objs.size], _, _, H1, rfl, I1.kept (t' := s1.toks) hk, turn_enumT a (s1.heap.objs.size + 1) s1.heap.objs.size, ⟨⟨.none, he⟩, ⟨_, hit, rfl, rfl⟩, Nat.succ_ne_self _, Nat.ne_of_lt la, Nat.ne_of_lt (Nat.lt_succ_of_lt la)⟩, fun b hb => I1.fpOk (fp b hb) (I1.hok.fresh (fp b hb)), q⟩
def numd (ds : List PyData) : List PyData := List.zipWith (fun x y => .tuple [x, y]) ((List.range ds.length).map fun (k : Nat) => .int (k : Int)) ds
def itE (f : DE) : DF := fun s => (f s).bind fun p => match p.1 with
  | .list ds => some (numd ds, p.2)
  | .tuple ds => some (numd ds, p.2)
  | _ => none
theorem pienum {X : Cx} {Z : Par} {a : Expr} {elts : List Expr} {kk : Nat} {pos p tpos : Pos} {fa : DE} (hg : Gl X "enumerate") (hm : X.mg "enumerate" = none) (ha : PE X a (lft X.K Z fa)) (hs : starEach [a] X.env = [(false, eval a X.env)] := by rfl) :
    PI X (.Tuple elts kk tpos) (.Call (.Name "enumerate" p) [a] [] pos) (lfIG X.K Z (itE fa)) := PIimp (pi_enumA hg hm (pa_cons ha pa_nil hs) hs) fun σ H R h => by
  obtain ⟨M, s, ds, s', rl, hf, k⟩ := h
  unfold itE at hf
  simp only [Option.bind_eq_some_iff] at hf
  obtain ⟨⟨d1, s1⟩, h1, h2⟩ := hf
  dsimp only at h2
  split at h2
  · cases h2
    refine ⟨M, s, _, _, rl, h1, fun v H1 k1 r1 t1 => ?_⟩
    obtain ⟨q, xs, rfl, g1, _⟩ := t1.list
    exact ⟨q, xs, rfl, .inl ⟨g1, k _ H1 k1 r1 (yields_enumL t1)⟩⟩
  · cases h2
    refine ⟨M, s, _, _, rl, h1, fun v H1 k1 r1 t1 => ?_⟩
    obtain ⟨q, xs, rfl, g1, _⟩ := t1.tuple
    exact ⟨q, xs, rfl, .inr ⟨g1, k _ H1 k1 r1 (yields_enumT t1)⟩⟩
  · cases h2
end Dl

/-! ### a set of numbers out of a list, put in order -/
namespace L2
open PySem PySem.Spec PyProof.Rows
abbrev freshS (w : World) : Obj := { cls := .type "set", dict := none, data := .set #[] 0 (.fresh 0 0 (!w.params.followText "set-order")) }
section
variable {P : Program} {w : World} {A : Around} {E : Value → Shared → Prop} {s : Shared}
set_option maxHeartbeats 6400000 in
/-- set(l), l a list of numbers: a set whose order is kept -/
theorem setL_ints {l : Addr} {us : Array Value} (zs : List Int) {Q : Value → Shared → Prop} (calm : A.handled = none) (isL : s.heap.IsList l us) (are : IntsAre us.toList zs) (few : zs.length + 1 < scanBound)
    (k : ∀ (g : Heap) (tk c : Nat), SetR w g s.heap.objs.size (fun j => decide (j ∈ zs)) c → (∀ b o, s.heap.get? b = some o → g.get? b = some o) → c ≤ zs.length → Q (.ref s.heap.objs.size) { s with heap := g, toks := tk }) :
    wpAny (model P w) A (call (.type "set") [.ref l]) Q E s := by
  have sz : us.size = zs.length := by have q := IntsAre.length are; simpa using q
  obtain ⟨c, tl, hmro⟩ := F.called_set.mro
  have made := F.called_set.made; have sub := F.called_set.sub
  refine wpAny_call (codeAny_of_tree (show wpAny _ _ (callAny (.type "set") _) _ _ _ from wpAny_pure ⟨Code.quiet_builtin _ (by decide +kernel), codeAny_builtin F.entry_type_call ?_⟩))
  rw [Around.under_plain (weight_type_call_type "set" [.ref l] []) rfl]
  have n1 := F.called_set.notType; have n2 := F.called_set.canCreate; have n3 := F.typeCall_set_1 (.ref l)
  repeat (any_goals (first | assumption | wp_step))
  refine codeAny_mono (code_set_led1 (.ref l) (E := E) (Q₁ := fun u t => u = .ref s.heap.objs.size ∧ t = { s with heap := s.heap.push (freshS w) }) ⟨rfl, rfl⟩) fun r t hr => ?_
  match r, hr with
  | .error e, hr => exact hr
  | .ok .next, hr => exact hr.elim
  | .ok .brk, hr => exact hr.elim
  | .ok .cont, hr => exact hr.elim
  | .ok (.ret u), hr =>
    obtain ⟨rfl, rfl⟩ := hr
    have at0 : (s.heap.push (freshS w)).get? s.heap.objs.size = some (freshS w) := Heap.get?_push_size _ rfl
    have ty0 : Shared.TypeIs { s with heap := s.heap.push (freshS w) } (.ref s.heap.objs.size) "set" := ⟨_, at0, rfl⟩
    have i1 := F.called_set.init.lookup; have i2 := F.called_set.init.bind (.ref s.heap.objs.size)
    repeat (any_goals (first | assumption | wp_step))
    refine codeAny_mono (codeAny_call_builtin (R := wants (fun v t2 => v = .none ∧ ∃ g tk c, t2 = { s with heap := g, toks := tk } ∧ c ≤ zs.length ∧ SetR w g s.heap.objs.size (fun j => decide (j ∈ zs)) c ∧ ∀ b o, s.heap.get? b = some o → g.get? b = some o) E)
      F.called_set.init.plain F.entry_set_init (check_set_init_1 ty0 ?_)) fun r2 t2 hr2 => ?_
    · obtain ⟨⟨oc, od, dt, osl⟩, hol, hcl, nl, hdl⟩ := isL
      simp only at hcl hdl
      subst hcl hdl
      have hol2 : (s.heap.push (freshS w)).get? l = some { cls := .type "list", dict := od, data := .seq us nl, slots := osl } := Heap.get?_push_of_some _ hol
      have q1 := F.sub_list_set; have q2 := F.sub_list_frozenset
      have q3 : (Value.type "list" == Value.type "dict") = false := by decide
      unfold Builtin.«set.__init__» noKeywords Builtin.Frozenset.updateFrom
      generalize hPI : pyIter = PI
      wp_walk
      subst hPI
      have il : (s.heap.push (freshS w)).IsList l us := ⟨_, hol2, rfl, nl, rfl⟩
      have ll : l < s.heap.objs.size := Heap.lt_size hol
      have sz1 : (s.heap.push (freshS w)).objs.size = s.heap.objs.size + 1 := Heap.size_push ..
      refine wpAny_pyIter_list il (wpAny_bind (wpAny_runValue ?_))
      have calm3 : A.in1.in1.in1.handled = none := by simp [calm]
      have vals : ∀ (i : Nat) (v : Value), us[i]? = some v → ∃ z t, zs[i]? = some z ∧ v = .int z t := fun i v hv => by
        have hi : i < zs.length := sz ▸ (Array.getElem?_eq_some_iff.mp hv).1
        obtain ⟨t, e⟩ := IntsAre.int_at are i v (by rw [Array.getElem?_toList]; exact hv)
        exact ⟨zs[i], t, List.getElem?_eq_getElem hi, by rw [e, List.getD_eq_getElem?_getD, List.getElem?_eq_getElem hi]; rfl⟩
      refine set_update_ints ((Walks.list calm3 _ l (by rw [sz1]; exact Nat.ne_of_lt (Nat.lt_succ_of_lt ll)) us).toS) s.heap.objs.size (by rw [sz1]; simp only [List.mem_cons, List.not_mem_nil, or_false, not_or]; exact ⟨Nat.ne_of_lt (Nat.lt_succ_self _), Nat.ne_of_gt ll⟩) zs sz few vals (us.size - 0) 0 _ (by omega) (Nat.zero_le _) ⟨⟨_, Heap.get?_push_size _ rfl, rfl, rfl⟩, il.push _⟩
        ⟨0, Nat.le_refl 0, setR_new_at (Heap.get?_push_of_some _ at0)⟩ fun t3 c3 moved c3le R3 => ?_
      obtain ⟨g3, ge3, dr3, tk3, os3⟩ := t3
      have w1 : ge3 = s.gens := moved.gens
      have w2 : dr3 = s.drawn := moved.drawn
      have w3 : os3 = s.os := moved.os
      subst w1 w2 w3
      refine (show wpAny _ _ _ _ _ _ from wpAny_pure (show wpAny _ _ (ret Value.none) _ _ _ from wpAny_pure ⟨rfl, g3, tk3, c3, rfl, sz ▸ c3le, R3, fun b o e => ?_⟩))
      have lb : b < s.heap.objs.size := Heap.lt_size e
      refine moved.heap b o ?_ (Heap.get?_push_of_some _ (Heap.get?_push_of_some _ e))
      simp only [List.mem_cons, List.not_mem_nil, or_false, sz1, not_or]
      exact ⟨Nat.ne_of_lt lb, Nat.ne_of_lt (Nat.lt_succ_of_lt lb)⟩
    · match r2, hr2 with
      | .error e, hr2 => exact hr2
      | .ok .next, hr2 => exact hr2.elim
      | .ok .brk, hr2 => exact hr2.elim
      | .ok .cont, hr2 => exact hr2.elim
      | .ok (.ret v), hr2 =>
        obtain ⟨rfl, g, tk, c, rfl, cle, R, kp⟩ := hr2
        repeat (any_goals (first | assumption | wp_step))
        exact k g tk c R kp cle
end
def rSetZ (K : PySem.W.Frag) (w : World) : List V → Hp → VK → Prop := fun vs H Q => ∃ (l : Addr) (zs : List Int), vs = [.ref l] ∧ SqL K H l (zs.map V.int) ∧ zs.length < 64 ∧ ∀ (p : Addr) (c : Nat), H p = none → c < 64 → Q (.ref p) (upd H p (SetO w p (fun j => decide (j ∈ zs)) c))
theorem cr_setZ {X : Cx} (calm : X.calm = true) : CallR X (.type "set") (rSetZ X.K X.w) := fun pins s σ H xs us Q I r ⟨l, zs, e, hl, few, q⟩ => by
  subst e
  rw [Vals.ref1 r]
  obtain ⟨its, rv, pl, _⟩ := I.list hl
  refine setL_ints zs (I.ok.hd calm) pl.isList (by simpa using rv.ints) (by unfold scanBound; omega) fun g tk c R kp cle => ?_
  exact ⟨.ref s.heap.objs.size, _, I.laid (t' := tk) kp (Nat.le_refl _) (setO_new R), rfl, q _ c (I.hok.fresh (Nat.le_refl _)) (by omega)⟩
end L2

namespace Dl
open PySem PySem.Spec PyProof.Rows L2
/-! ### whole numbers, each once, rising: sorted(set(..)) -/
def insU (x : Int) : List Int → List Int
  | [] => [x]
  | y :: r => if x < y then x :: y :: r else if x = y then y :: r else y :: insU x r
def upS : List Int → List Int
  | [] => []
  | x :: r => insU x (upS r)
theorem mem_insU {x z : Int} : ∀ {l : List Int}, z ∈ insU x l ↔ z = x ∨ z ∈ l
  | [] => by simp [insU]
  | y :: r => by
    unfold insU
    split
    · simp
    · split
      · rename_i e
        subst e
        simp
      · rw [List.mem_cons, mem_insU (l := r), List.mem_cons]
        constructor <;> (intro h; rcases h with h | h | h <;> simp [h])
theorem insU_up {x : Int} : ∀ {l : List Int}, l.Pairwise (· < ·) → (insU x l).Pairwise (· < ·)
  | [], _ => by simp [insU]
  | y :: r, h => by
    unfold insU
    split
    · rename_i lt
      refine List.pairwise_cons.mpr ⟨fun z hz => ?_, h⟩
      rcases List.mem_cons.mp hz with e | e
      · rw [e]; exact lt
      · exact Int.lt_trans lt (List.rel_of_pairwise_cons h e)
    · split
      · exact h
      · rename_i n1 n2
        refine List.pairwise_cons.mpr ⟨fun z hz => ?_, insU_up (List.Pairwise.of_cons h)⟩
        rcases mem_insU.mp hz with e | e
        · rw [e]; omega
        · exact List.rel_of_pairwise_cons h e
theorem mem_upS {z : Int} : ∀ {l : List Int}, z ∈ upS l ↔ z ∈ l
  | [] => by simp [upS]
  | x :: r => by rw [upS, mem_insU, mem_upS, List.mem_cons]
theorem upS_up : ∀ l : List Int, (upS l).Pairwise (· < ·)
  | [] => List.Pairwise.nil
  | x :: r => insU_up (upS_up r)
theorem up_one : ∀ {l m : List Int}, l.Pairwise (· < ·) → m.Pairwise (· < ·) → (∀ z, z ∈ l ↔ z ∈ m) → l = m
  | [], [], _, _, _ => rfl
  | [], y :: m, _, _, h => by have := (h y).mpr List.mem_cons_self; cases this
  | x :: l, [], _, _, h => by have := (h x).mp List.mem_cons_self; cases this
  | x :: l, y :: m, hl, hm, h => by
    have e : x = y := by
      rcases List.mem_cons.mp ((h x).mp List.mem_cons_self) with a | a
      · exact a
      · rcases List.mem_cons.mp ((h y).mpr List.mem_cons_self) with b | b
        · exact b.symm
        · have := List.rel_of_pairwise_cons hm a
          have := List.rel_of_pairwise_cons hl b
          omega
    subst e
    refine congrArg (x :: ·) (up_one (List.Pairwise.of_cons hl) (List.Pairwise.of_cons hm) fun z => ⟨fun hz => ?_, fun hz => ?_⟩)
    · have lt := List.rel_of_pairwise_cons hl hz
      rcases List.mem_cons.mp ((h z).mp (List.mem_cons_of_mem _ hz)) with a | a
      · omega
      · exact a
    · have lt := List.rel_of_pairwise_cons hm hz
      rcases List.mem_cons.mp ((h z).mpr (List.mem_cons_of_mem _ hz)) with a | a
      · omega
      · exact a
def intsOf : List PyData → Option (List Int)
  | [] => some []
  | .int z :: r => (intsOf r).map (z :: ·)
  | _ => none
theorem intsOf_map : ∀ {ds : List PyData} {ns : List Int}, intsOf ds = some ns → ds = ns.map .int
  | [], _, e => by cases e; rfl
  | d :: ds, ns, e => by
    unfold intsOf at e
    split at e
    · rename_i q; cases q
    · rename_i z r q
      cases q
      simp only [Option.map_eq_some_iff] at e
      obtain ⟨zs, e1, rfl⟩ := e
      rw [intsOf_map e1]
      rfl
    · cases e
theorem intsOf_of : ∀ ns : List Int, intsOf (ns.map .int) = some ns
  | [] => rfl
  | n :: r => by simp [intsOf, intsOf_of r]
def gSortSet : PyData → Option PyData
  | .list ds => (intsOf ds).bind fun ns => if ns.length < 64 then some (.list ((upS ns).map .int)) else none
  | _ => none
section
variable {X : Cx} {Z : Par} {fa : DE}
theorem dsortset {a : Expr} {p p2 q pos : Pos} (hc : X.calm = true) (hg : Gl X "sorted") (hm : X.mg "sorted" = none) (hg2 : Gl X "set") (hm2 : X.mg "set" = none) (ha : PE X a (lft X.K Z fa))
    (na : starEach [a] X.env = (false, eval a X.env) :: starEach [] X.env := by rfl) (nb : starEach [.Call (.Name "set" p2) [a] [] q] X.env = (false, eval (.Call (.Name "set" p2) [a] [] q) X.env) :: starEach [] X.env := by rfl)
    (hpl : (backTo q (starEach [] X.env)).any (·.1) = false := by rfl) (hpl2 : (backTo pos (starEach [] X.env)).any (·.1) = false := by rfl) : PE X (.Call (.Name "sorted" p) [.Call (.Name "set" p2) [a] [] q] [] pos) (lft X.K Z (dUn gSortSet fa)) :=
  PEimp (pe_callB (cr_sortedSet hc) hg hm (by decide +kernel) (pa_cons (pe_callTy (cr_setZ hc) hg2 hm2 (by decide +kernel) (pa_cons ha pa_nil na) (by decide) (by decide) na hpl) pa_nil nb) (by decide) (by decide) nb hpl2) fun σ H Q h => by
    obtain ⟨M, s, d, s', rl, hf, k⟩ := h
    obtain ⟨d1, f1, g1⟩ := dUn_some hf
    unfold gSortSet at g1
    split at g1
    case h_2 => cases g1
    rename_i ds
    simp only [Option.bind_eq_some_iff] at g1
    obtain ⟨ns, e1, e2⟩ := g1
    split at e2
    case isFalse => cases e2
    rename_i few
    cases e2
    refine ⟨M, s, _, s', rl, f1, fun v H1 k1 r1 t1 => ?_⟩
    obtain ⟨l, xs, rfl, hq, u1⟩ := t1.list
    obtain rfl := intsOf_map e1
    obtain rfl := u1.ints
    refine ⟨l, ns, rfl, hq, few, fun p2 c hp2 hc2 => ⟨p2, _, c, rfl, upd_same, hc2, fun ns' p3 up mem len hp3 => ?_⟩⟩
    obtain rfl : ns' = upS ns := up_one up (upS_up ns) fun z => by rw [mem z, mem_upS, decide_eq_true_iff]
    have r2 := r1.grow (grow_new (o := SetO X.w p2 (fun j => decide (j ∈ ns)) c) hp2)
    exact k _ _ (k1.trans ((kq_grow (grow_new hp2)).trans (kq_grow (grow_new hp3)))) (r2.grow (grow_new hp3)) (dt_newL r2.muT hp3 (dtAll_ints _))
end

/-! ### a value as a test: lists, tuples, texts, whole numbers -/
def truD : PyData → Option Bool
  | .none => some false
  | .bool b => some b
  | .int i => some (i != 0)
  | .str x => if x.length ≤ sizeLine then some (decide (x.length ≠ 0)) else none
  | .list ds => some (!ds.isEmpty)
  | .tuple ds => some (!ds.isEmpty)
  | _ => none
def dTru (f : DE) : DT := fun s => (f s).bind fun p => (truD p.1).map fun b => (b, p.2)
theorem isEmpty_dt {K : PySem.W.Frag} {mu : Addr → Prop} {H : Hp} {vs : List V} {ds : List PyData} (t : DtAll K mu H vs ds) : (!vs.isEmpty) = !ds.isEmpty := by
  cases t <;> rfl
section
variable {X : Cx} {Z : Par} {e : Expr} {fa : DE}
theorem dtru (h : PE X e (lft X.K Z fa)) (he : ∀ whole, isTrue e X.env whole = (do let v ← whole; standAt e.pos; holding [v] (truthy v)) := by intro _; rfl) : PT X e (lfT X.K Z (dTru fa)) := PTimp (pt_truth h he) fun σ H Q h => by
  obtain ⟨M, s, b, s', rl, hf, k⟩ := h
  unfold dTru at hf
  simp only [Option.bind_eq_some_iff, Option.map_eq_some_iff] at hf
  obtain ⟨⟨d, s1⟩, h1, b1, h2, h3⟩ := hf
  cases h3
  refine ⟨M, s, d, _, rl, h1, fun v H1 k1 r1 t1 => ⟨b, ?_, k H1 k1 r1⟩⟩
  have h2 : truD d = some b := h2
  cases d with
  | none => cases h2; rw [t1.none_]; rfl
  | bool c => cases h2; rw [t1.bool]; rfl
  | int i => cases h2; rw [t1.inti]; rfl
  | str x =>
    unfold truD at h2
    dsimp only at h2
    split at h2
    · rename_i few
      cases h2
      rw [t1.text]
      refine ⟨few, ?_⟩
      by_cases z : x.length = 0
      · rw [z]; rfl
      · have : ((x.length : Int) != 0) = true := by rw [bne_iff_ne]; omega
        rw [this]; simp [z]
    · cases h2
  | list ds =>
    cases h2
    obtain ⟨a, xs, rfl, q, u⟩ := t1.list
    exact .inl ⟨xs, q, (isEmpty_dt u).symm⟩
  | tuple ds =>
    cases h2
    obtain ⟨a, xs, e, q, u⟩ := t1.tuple
    subst e
    exact .inr (.inl ⟨xs, q, (isEmpty_dt u).symm⟩)
  | dict ds => cases h2
end

/-! ### a text among anything; a tuple of anything == a tuple of texts -/
def txE (z : Str) (u : Value) : Bool := match u with
  | .str y _ => y == z
  | _ => false
theorem txE_of {z : Str} {x : V} {u : Value} (r : RelV x u) : txE z u = isTx z x := by
  cases x <;> first | (cases r; rfl) | (obtain ⟨t, rfl⟩ := r; rfl)
theorem mem_txE {X : Cx} {pins : List (Addr × Obj)} {σ : L2.St} {H : Hp} {s : Shared} (I : Inv X pins σ H s) {A : Around} (hu : A.units < cLine) {z : Str} {t : Tok} : ∀ {xs : List V} {us : List Value}, Vals xs us → (∀ w ∈ xs, Okv X.K H w) →
    ∀ u ∈ us, SeqAt.EqAt A s u (.str z t) (txE z u)
  | _, _, .nil, _ => fun u hu => by cases hu
  | _, _, .cons r rest, ok => fun u hm => by
    rcases List.mem_cons.mp hm with e | hm
    · rw [e, txE_of r]
      exact eq_text1 I hu r (ok _ List.mem_cons_self)
    · exact mem_txE I hu rest (fun w hw => ok w (List.mem_cons_of_mem _ hw)) u hm
theorem any_txE {z : Str} : ∀ {xs : List V} {us : List Value}, Vals xs us → us.any (txE z) = xs.any (isTx z)
  | _, _, .nil => rfl
  | _, _, .cons r t => by rw [List.any_cons, List.any_cons, any_txE t, txE_of r]
def rInR (K : PySem.W.Frag) : R2 := fun x y H Q => ∃ z p xs, x = .str z ∧ y = .ref p ∧ SqT K H p xs ∧ (∀ w ∈ xs, Okv K H w) ∧ Q (.bl (xs.any (isTx z))) H
theorem op_inR {X : Cx} (hu : X.A.units + 1 < cLine) : OpR X (compareOp .In) (rInR X.K) := by
  rintro pins s σ H x y v u Q I rx ry ⟨z, p, xs, rfl, rfl, hq, ok, q⟩
  cases ry
  obtain ⟨t, rfl⟩ := rx
  obtain ⟨its, r, pl, _⟩ := I.tuple hq
  refine SeqAt.in_tupleAt (txE z) pl (fun w hw => mem_txE I hu r ok w (by simpa using hw)) ⟨.bl _, H, I, rfl, ?_⟩
  rw [show its.toArray.any (txE z) = its.any (txE z) by simp, any_txE r]
  exact q
def gInR : PyData → PyData → Option PyData
  | .str z, .tuple ds => if ds.all plainD = true then some (.bool (ds.any fun d => PyData.eqv d (.str z))) else none
  | _, _ => none
section
variable {K : PySem.W.Frag} {mu : Addr → Prop} {H : Hp}
theorem isTx_dt {v : V} {d : PyData} (t : Dt K mu H v d) (z : Str) : isTx z v = PyData.eqv d (.str z) := by
  cases t with
  | str x =>
    show (x == z) = decide (_ = _)
    rw [Bool.eq_iff_iff, beq_iff_eq, decide_eq_true_eq]
  | _ => simp [isTx, PyData.eqv]
theorem okvs_of : ∀ {vs : List V} {ds : List PyData}, DtAll K mu H vs ds → ds.all plainD = true → ∀ w ∈ vs, Okv K H w
  | _, _, .nil, _ => fun w hw => by cases hw
  | _, _, .cons h t, e => fun w hw => by
    rw [List.all_cons, Bool.and_eq_true] at e
    rcases List.mem_cons.mp hw with z | z
    · rw [z]; exact okv_of h e.1
    · exact okvs_of t e.2 w z
theorem any_isTx (z : Str) : ∀ {vs : List V} {ds : List PyData}, DtAll K mu H vs ds → vs.any (isTx z) = ds.any fun d => PyData.eqv d (.str z)
  | _, _, .nil => rfl
  | _, _, .cons h t => by rw [List.any_cons, List.any_cons, any_isTx z t, isTx_dt h]
theorem ok_inR : OpOk K (rInR K) gInR := fun mu H x y d1 d2 d Q hm t1 t2 e k => by
  unfold gInR at e
  split at e
  · split at e
    · rename_i z ds c
      cases e
      obtain ⟨a, xs, e2, hq, u⟩ := t2.tuple
      refine ⟨z, a, xs, t1.text, e2, hq, okvs_of u c, ?_⟩
      rw [any_isTx z u]
      exact k _ H (fun _ _ z => z) (.bl _)
    · cases e
  · cases e
def eqTs : List PyData → List Str → Bool
  | [], [] => true
  | d :: ds, z :: zs => PyData.eqv d (.str z) && eqTs ds zs
  | _, _ => false
theorem eqTs_iff : ∀ {ds : List PyData} {zs : List Str}, eqTs ds zs = true ↔ ds.length = zs.length ∧ ∀ (j : Nat) d z, ds[j]? = some d → zs[j]? = some z → PyData.eqv d (.str z) = true
  | [], [] => by simp [eqTs]
  | [], z :: zs => by simp [eqTs]
  | d :: ds, [] => by simp [eqTs]
  | d :: ds, z :: zs => by
    rw [eqTs, Bool.and_eq_true, eqTs_iff (ds := ds) (zs := zs), List.length_cons, List.length_cons]
    constructor
    · rintro ⟨h1, h2, h3⟩
      refine ⟨by omega, fun j d' z' e1 e2 => ?_⟩
      cases j with
      | zero => simp at e1 e2; subst e1 e2; exact h1
      | succ j => exact h3 j d' z' (by simpa using e1) (by simpa using e2)
    · rintro ⟨h1, h2⟩
      exact ⟨h2 0 d z rfl rfl, by omega, fun j d' z' e1 e2 => h2 (j + 1) d' z' (by simpa using e1) (by simpa using e2)⟩
def gEqTS : PyData → PyData → Option PyData
  | .tuple ds, .tuple es => if ds.all plainD = true then (strsS es).map fun zs => .bool (eqTs ds zs) else none
  | _, _ => none
/-- the answer at a place -/
def eqAt' (xs : List V) (zs : List Str) (j : Nat) : Bool := match xs[j]?, zs[j]? with
  | some x, some z => isTx z x
  | _, _ => true
def rEqTS (K : PySem.W.Frag) : R2 := fun x y H Q => ∃ a b xs zs, x = .ref a ∧ y = .ref b ∧ SqT K H a xs ∧ SqT K H b (zs.map V.str) ∧ (∀ w ∈ xs, Okv K H w) ∧ Q (.bl ((List.range (min xs.length zs.length)).all (eqAt' xs zs) && xs.length == zs.length)) H
theorem op_eqTS {X : Cx} (hu : X.A.units + 1 < cLine) : OpR X (compareOp .Eq) (rEqTS X.K) := by
  rintro pins s σ H x y v u Q I rx ry ⟨a, b, xs, zs, rfl, rfl, h1, h2, ok, q⟩
  cases rx
  cases ry
  obtain ⟨its, r1, p1, _⟩ := I.tuple h1
  obtain ⟨its2, r2, p2, _⟩ := I.tuple h2
  have l1 := r1.length
  have l2 := r2.length
  rw [List.length_map] at l2
  have hl1 : its.toArray.size = xs.length := by simpa using l1.symm
  have hl2 : its2.toArray.size = zs.length := by simpa using l2.symm
  refine SeqAt.rcIn_tuples (e := eqAt' xs zs) p1 p2 (by omega) (fun j g1 g2 => ?_) ⟨.bl ((List.range (min xs.length zs.length)).all (eqAt' xs zs) && xs.length == zs.length), H, I, by rw [hl1, hl2]; rfl, q⟩
  have i1 : j < xs.length := by omega
  have i2 : j < zs.length := by omega
  obtain ⟨w, e1, rw1⟩ := r1.get (List.getElem?_eq_getElem i1)
  obtain ⟨w2, e2, rw2⟩ := r2.get (x := .str zs[j]) (by rw [List.getElem?_map, List.getElem?_eq_getElem i2]; rfl)
  have f1 : its.toArray[j] = w := by
    have : its[j]? = some its.toArray[j] := by simp [List.getElem?_eq_getElem (show j < its.length by simpa using g1)]
    rw [this] at e1
    exact Option.some.inj e1
  have f2 : its2.toArray[j] = w2 := by
    have : its2[j]? = some its2.toArray[j] := by simp [List.getElem?_eq_getElem (show j < its2.length by simpa using g2)]
    rw [this] at e2
    exact Option.some.inj e2
  rw [f1, f2]
  obtain ⟨t, rfl⟩ := rw2
  have q1 := eq_text1 I (A := X.A.in1) (z := zs[j]) (t := t) (show X.A.in1.units < cLine from hu) rw1 (ok _ (List.getElem_mem i1))
  have e : eqAt' xs zs j = isTx zs[j] xs[j] := by unfold eqAt'; rw [List.getElem?_eq_getElem i1, List.getElem?_eq_getElem i2]
  rw [e]
  exact q1.inModel _ _
theorem ok_eqTS : OpOk K (rEqTS K) gEqTS := fun mu H x y d1 d2 d Q hm t1 t2 e k => by
  unfold gEqTS at e
  split at e
  · split at e
    · rename_i ds es c
      simp only [Option.map_eq_some_iff] at e
      obtain ⟨zs, e1, rfl⟩ := e
      obtain ⟨a, xs, ea, hq, u⟩ := t1.tuple
      obtain ⟨b, ys, eb, hq2, u2⟩ := t2.tuple
      obtain rfl := strsS_of e1 u2
      refine ⟨a, b, xs, zs, ea, eb, hq, hq2, okvs_of u c, ?_⟩
      have fin : ((List.range (min xs.length zs.length)).all (eqAt' xs zs) && xs.length == zs.length) = eqTs ds zs := by
        rw [Bool.eq_iff_iff, eqTs_iff, Bool.and_eq_true, beq_iff_eq, ← u.len, List.all_eq_true]
        constructor
        · rintro ⟨h1, h2⟩
          refine ⟨h2, fun j d z g1 g2 => ?_⟩
          obtain ⟨w, w1, w2⟩ := u.get g1
          obtain ⟨jl, _⟩ := List.getElem?_eq_some_iff.mp w1
          have := h1 j (List.mem_range.mpr (by omega))
          unfold eqAt' at this
          rw [w1, g2] at this
          rw [← isTx_dt w2]
          exact this
        · rintro ⟨h1, h2⟩
          refine ⟨fun j hj => ?_, h1⟩
          have hj' := List.mem_range.mp hj
          have i1 : j < xs.length := by omega
          have i2 : j < zs.length := by omega
          obtain ⟨d, w1, w2⟩ := u.getv (List.getElem?_eq_getElem i1)
          unfold eqAt'
          rw [List.getElem?_eq_getElem i1, List.getElem?_eq_getElem i2]
          show isTx _ _ = true
          rw [isTx_dt w2]
          exact h2 j _ _ w1 (List.getElem?_eq_getElem i2)
      rw [fin]
      exact k _ H (fun _ _ z => z) (.bl _)
    · cases e
  · cases e
end
end Dl

/-! ### what is never come to; tuples of numbers, which is less; a tuple among tuples -/
namespace Dl
open PySem PySem.Spec PyProof.Rows L2
/-- an expression, a statement, that no run comes to -/
def dNo : DE := fun _ => none
def sNo : DS := fun _ => none
section
variable {X : Cx} {Z : Par} {e : Expr} {st : Stmt}
theorem dno : PE X e (lft X.K Z dNo) := ⟨fun pins s σ H Q I h => by
  obtain ⟨_, _, _, _, _, hf, _⟩ := h
  cases hf⟩
theorem sno : PS X st (lfS X.K Z sNo) := ⟨fun pins s σ H D I h => by
  obtain ⟨_, _, _, _, hf, _⟩ := h
  cases hf⟩
end
/-! a < b, tuples of numbers of one length -/
def intsD2 : List PyData → Option (List Int)
  | [] => some []
  | .int i :: r => (intsD2 r).map (i :: ·)
  | _ => none
theorem intsD2_map : ∀ {ds : List PyData} {ns : List Int}, intsD2 ds = some ns → ds = ns.map .int
  | [], _, h => by cases h; rfl
  | .int i :: r, ns, h => by
    unfold intsD2 at h
    simp only [Option.map_eq_some_iff] at h
    obtain ⟨ms, e, rfl⟩ := h
    rw [List.map_cons, ← intsD2_map e]
def gLtT (d e : PyData) : Option PyData := match d, e with
  | .tuple a, .tuple b => (intsD2 a).bind fun ns => (intsD2 b).map fun ms => .bool (Ob.lexAt (fun j => decide (ns.getD j 0 = ms.getD j 0)) (fun j => decide (ns.getD j 0 < ms.getD j 0)) (decide (ns.length < ms.length)) 0 (min ns.length ms.length))
  | _, _ => none
def rLtT (K : PySem.W.Frag) : R2 := fun x y H Q => ∃ (a b : Addr) (ns ms : List Int), x = .ref a ∧ y = .ref b ∧ SqT K H a (ns.map V.int) ∧ SqT K H b (ms.map V.int) ∧
  Q (.bl (Ob.lexAt (fun j => decide (ns.getD j 0 = ms.getD j 0)) (fun j => decide (ns.getD j 0 < ms.getD j 0)) (decide (ns.length < ms.length)) 0 (min ns.length ms.length))) H
theorem op_ltT {X : Cx} (hu : X.A.units < cLine) : OpR X (compareOp .Lt) (rLtT X.K) := by
  rintro pins s σ H x y v u Q I rx ry ⟨a, b, ns, ms, rfl, rfl, ha, hb, q⟩
  cases rx
  cases ry
  obtain ⟨ia, r1, p1, _⟩ := I.tuple ha
  obtain ⟨ib, r2, p2, _⟩ := I.tuple hb
  have i1 : IntsAre ia ns := Vals.ints r1
  have i2 : IntsAre ib ms := Vals.ints r2
  have z1 : ia.toArray.size = ns.length := by rw [List.size_toArray]; exact i1.length
  have z2 : ib.toArray.size = ms.length := by rw [List.size_toArray]; exact i2.length
  have g1 : ∀ j (h1 : j < ia.toArray.size), ∃ t, ia.toArray[j] = .int (ns.getD j 0) t := fun j h1 => PyProof.Rows.IntsAre.int_at i1 _ _ (by simp at h1; simp [h1])
  have g2 : ∀ j (h1 : j < ib.toArray.size), ∃ t, ib.toArray[j] = .int (ms.getD j 0) t := fun j h1 => PyProof.Rows.IntsAre.int_at i2 _ _ (by simp at h1; simp [h1])
  have R := Ob.RcOp.tuples_lt (A := X.A) (s := s) (e := fun j => decide (ns.getD j 0 = ms.getD j 0)) (r := fun j => decide (ns.getD j 0 < ms.getD j 0)) p1 p2 hu (fun j h1 h2 => by
    obtain ⟨t, et⟩ := g1 j h1
    obtain ⟨t', et'⟩ := g2 j h2
    rw [et, et', show decide (ns.getD j 0 = ms.getD j 0) = (ns.getD j 0 == ms.getD j 0) from rfl]
    exact SeqAt.EqAt.int_int _ _ _ _) (fun j h1 h2 _ => by
    obtain ⟨t, et⟩ := g1 j h1
    obtain ⟨t', et'⟩ := g2 j h2
    rw [et, et']
    exact Ob.RcOp.lt_int _ _ _ _)
  rw [z1, z2] at R
  exact (show wpAny (model X.prog X.w) X.A (compareOp .Lt (.ref a) (.ref b)) (EP X pins σ Q) X.xe s from R X.prog X.w X.xe (EP X pins σ Q) ⟨.bl _, H, I, rfl, q⟩)
theorem dt_ints {K : PySem.W.Frag} {mu : Addr → Prop} {H : Hp} : ∀ {xs : List V} {ns : List Int}, DtAll K mu H xs (ns.map .int) → xs = ns.map V.int
  | _, [], .nil => rfl
  | _, i :: r, .cons h t => by rw [List.map_cons, ← dt_ints t, (show Dt K mu H _ (.int i) from h).inti]
theorem ok_ltT {K : PySem.W.Frag} : OpOk K (rLtT K) gLtT := fun mu H x y d1 d2 d Q hm t1 t2 e k => by
  unfold gLtT at e
  split at e
  · simp only [Option.bind_eq_some_iff, Option.map_eq_some_iff] at e
    obtain ⟨ns, e1, ms, e2, rfl⟩ := e
    rw [intsD2_map e1] at t1
    rw [intsD2_map e2] at t2
    obtain ⟨a, xs, rfl, h1, u1⟩ := t1.tuple
    obtain ⟨b, ys, rfl, h2, u2⟩ := t2.tuple
    rw [dt_ints u1] at h1
    rw [dt_ints u2] at h2
    exact ⟨a, b, ns, ms, rfl, rfl, h1, h2, k _ H (fun _ _ z => z) (.bl _)⟩
  · cases e
/-! a thing among the items of a tuple, neither with a dict -/
def gInT (neg : Bool) (d e : PyData) : Option PyData := match e with
  | .tuple ds => if (noDct d = true ∧ noDct (.tuple ds) = true) ∧ SeqAt.shaped d = true ∧ SeqAt.shaped (.tuple ds) = true then some (.bool (if neg then !ds.any (fun z => PyData.eqv z d) else ds.any fun z => PyData.eqv z d)) else none
  | _ => none
def rInT (K : PySem.W.Frag) (neg : Bool) : R2 := fun x y H Q => ∃ d ds, Dp K H x d ∧ Dp K H y (.tuple ds) ∧ SeqAt.shaped d = true ∧ SeqAt.shaped (.tuple ds) = true ∧ Q (.bl (if neg then !ds.any (fun z => PyData.eqv z d) else ds.any fun z => PyData.eqv z d)) H
theorem op_inT {X : Cx} (hu : X.A.units + 65 < cLine) : OpR X (compareOp .In) (rInT X.K false) := by
  rintro pins s σ H x y v u Q I rx ry ⟨d, ds, hd, he, sd, se, q⟩
  obtain ⟨as, r1⟩ := Dp.reads I d x v hd rx
  obtain ⟨bs, r2⟩ := Dp.reads I (.tuple ds) y u he ry
  exact SeqAt.in_tuple_reads r2 r1 (SeqAt.canLay_of_shaped se) (SeqAt.canLay_of_shaped sd) (room_in_shaped sd hu) ⟨.bl _, H, I, rfl, q⟩
theorem op_notInT {X : Cx} (hu : X.A.units + 65 < cLine) : OpR X (compareOp .NotIn) (rInT X.K true) := by
  rintro pins s σ H x y v u Q I rx ry ⟨d, ds, hd, he, sd, se, q⟩
  obtain ⟨as, r1⟩ := Dp.reads I d x v hd rx
  obtain ⟨bs, r2⟩ := Dp.reads I (.tuple ds) y u he ry
  exact SeqAt.notIn_tuple_reads r2 r1 (SeqAt.canLay_of_shaped se) (SeqAt.canLay_of_shaped sd) (room_in_shaped sd hu) ⟨.bl _, H, I, rfl, q⟩
theorem ok_inT {K : PySem.W.Frag} {neg : Bool} : OpOk K (rInT K neg) (gInT neg) := fun mu H x y d1 d2 d Q hm t1 t2 e k => by
  unfold gInT at e
  split at e
  · split at e
    case isFalse => cases e
    rename_i h
    cases e
    exact ⟨d1, _, t1.dp h.1.1, t2.dp h.1.2, h.2.1, h.2.2, k _ H (fun _ _ z => z) (.bl _)⟩
  · cases e
theorem hu65 {A : Around} {k : Nat} (hr : Room k A) : A.units + 65 < cLine := by have := hr.un; omega
end Dl

/-! ### a dict of one's own, written out by tuples -/
namespace Dl
open PySem PySem.Spec PyProof.Rows L2
def sDispD (i : Nat) (fs : List (DE × DE)) : DS := fun s => (runP fs s).bind fun q => (tupPs q.1).bind fun ps => if (ps.length ≤ 15 ∧ (ps.map (·.1)).Nodup) ∧ i < q.2.length then some (.nx (q.2.set i (.dic (.kT ps)))) else none
section
variable {X : Cx} {Z : Par} {pos : Pos} {keys : List (Option Expr)} {values : List Expr} {fs : List (DE × DE)}
theorem sdispD {i : Nat} {x : Str} {pos' p2 : Pos} (hN : X.N.Nodup) (hi : X.N[i]? = some x) (hx : Loc X.env.scope x) (hu : X.A.units + 1 < cLine) (h : PPs X p2 keys values (fs.map fun p => (lfE X.K p.1, lfE X.K p.2))) (hs : swapsWith (.Dict keys values p2) (some (.Name x pos')) pos.line X.env = pure false := by rfl)
    (hall : keys.all (·.isSome) = true := by rfl) (hl : keys.length = values.length := by rfl) (h0 : keys ≠ [] := by exact fun z => by cases z) (h15 : keys.length ≤ 15 := by decide)
    (hf : X.fn x = true ∨ X.env.scope.names.lookup x = some .local := by first | exact .inl rfl | exact .inr rfl | assumption) : PS X (.Assign [.Name x pos'] (.Dict keys values p2) pos) (lfS X.K Z (sDispD i fs)) := PSimp (ps_set hN hi hx (pe_dispT hu h hall hl h0 h15) hs hf) fun D σ H q => by
  obtain ⟨M, s, fl, rl, hf, k⟩ := q
  unfold sDispD at hf
  simp only [Option.bind_eq_some_iff] at hf
  obtain ⟨⟨prs, s1⟩, e1, ps, e2, e3⟩ := hf
  dsimp only at e2 e3
  split at e3
  case isFalse => cases e3
  rename_i few
  cases e3
  intro p hp
  have npp : p ∉ Z.p := fun z => by
    obtain ⟨o, e⟩ := rl.pt p z
    rw [hp] at e; cases e
  have nM : p ∉ M := fun z => by
    obtain ⟨_, _, _, o, e⟩ := rl.fr p z
    rw [hp] at e; cases e
  have nm : ¬ Z.m0 p := fun z => by
    obtain ⟨o, e⟩ := rl.mz p z
    rw [hp] at e; cases e
  have n0 : Z.H0 p = none := by
    cases q : Z.H0 p with
    | none => rfl
    | some o =>
      have := rl.base p o q npp
      rw [hp] at this; cases this
  refine lift_pairs fs (rl.addNew hp (.dT [])) e1 fun vs H2 k2 r2 tp => ?_
  obtain ⟨xs, rfl, hx, l, dk⟩ := tp.tup e2
  have h2 : H2 p = some (.dT []) := (k2 p _ upd_same npp nM).1
  have ll : xs.length = ps.length := by have := congrArg List.length l; simpa using this
  refine ⟨h2, xs, rfl, hx, by rw [l]; exact few.1.2, by rw [ll]; exact few.1.1, ?_⟩
  have r3 := r2.wrAdd npp (.dT (xs.map fun x => (x.1, x.2.2))) n0
  have kk : Kq Z M H M (upd H2 p (.dT (xs.map fun x => (x.1, x.2.2)))) := fun a o e n1 n2 => ⟨by
    have na := ne_of_none e hp
    rw [upd_ne na]
    exact (k2 a o (grow_new hp a o e) n1 n2).1, n2⟩
  have ct : CtOk X.K (Mu (Z.add p) M) (upd H2 p (.dT (xs.map fun x => (x.1, x.2.2)))) p (.kT ps) := ⟨_, upd_same, dk.mono fun a o e n => ⟨by
    have na : a ≠ p := fun z => n (mu_add.mpr (.inr z))
    rw [upd_ne na]
    exact e, n⟩⟩
  obtain ⟨M', r4, k4⟩ := r3.dic n0 npp nm ct i few.2
  exact k M' _ _ (fun c u e n1 n2 => ⟨(kk c u e n1 n2).1, fun z => (k4 c z).elim n2 (ne_of_none e hp)⟩) r4
end
section
variable {s : Sl} {i : Nat} {N : Sl → Prop} {R : PyData → Sl → Prop}
theorem s_dispD {fs : List (DE × DE)} {prs : List (PyData × PyData)} {s1 : Sl} {ps : List (List Key × PyData)} (h : runP fs s = some (prs, s1)) (e : tupPs prs = some ps) (l : ps.length ≤ 15) (nd : (ps.map (·.1)).Nodup) (hi : i < s1.length) (k : N (s1.set i (.dic (.kT ps)))) : Gs (sDispD i fs s) N R :=
  ⟨.inl ⟨_, by unfold sDispD; rw [h, Option.bind_some, e, Option.bind_some, if_pos ⟨⟨l, nd⟩, hi⟩], k⟩⟩
end
end Dl

/-! ### {k: v for ..}, the keys tuples -/
namespace Dl
open PySem PySem.Spec PyProof.Rows L2
theorem put_dictT {X : Cx} {pins : List (Addr × Obj)} {σ : L2.St} {H : Hp} {t : Shared} {E : Value → Shared → Prop} {D b : Addr} {kvs : List (List Key × V)} {k : List Key} {v : V} {r : Value} {Q : Unit → Shared → Prop} (hu : X.A.units < cLine) (I : Inv X pins σ H t) (hD : H D = some (.dT kvs)) (few : kvs.length < sizeLine)
    (hb : H b = some (.tup (k.map kV))) (rv : RelV v r) (h : ∀ t', Inv X pins σ (upd H D (.dT (putK kvs k v))) t' → Q () t') : wpAny (model X.prog X.w) X.A (dictSet D (.ref b) r) Q E t := by
  obtain ⟨z, hd, xs, rel, dd⟩ := dt_of I.hok hD
  have zx : xs.length ≤ sizeLine := by rw [← Paired.length rel]; exact z
  have zk : (putK kvs k v).length ≤ sizeLine := by have := length_putK kvs k v; omega
  refine wpAny_dictSet_heap (knd := tupleKind (mixKind X.prog X.w)) (hsz := zx) hu (key_of I.hok hb) dd fun h' dd' sb => h _ ?_
  obtain ⟨o, es, ep, q1, q2, q3, q4, _, q5⟩ := dd'
  refine d_write I (by rw [hD]; exact True.intro) sb ⟨o, q1⟩ ⟨zk, hd, _, (rel.put k hb rv).keeps fun c ys ec => ?_, o, es, ep, q1, q2, q3, q4, q5⟩
  rw [upd_ne (ne_of ec hD (fun z => nomatch z))]
  exact ec
/-- D the new dict; a key is a tuple that stands -/
def tDcT (wi : TI) (g : TG) (tt : TT) (tk tv : TE) (vs : List Nat) : TE := fun σ H Q => wi σ H fun J H1 => ∀ D, H1 D = none → ∃ W : Nat → Nat → Hp → Prop, (∃ m, W 0 m (upd H1 D (.dT []))) ∧ ∀ i m H, W i m H →
  (J.stop i H ∧ Q (.ref D) H) ∨ (J.go i H ∧ ∃ Nx : Hp → Prop, (∀ H', Nx H' → ∃ m', m' < m ∧ W (i + 1) m' H') ∧ ∀ x H', J.yld i H x H' → g x (wipe σ vs) H' fun σ2 H2 => wipe σ2 vs = wipe σ vs ∧ tt σ2 H2 fun b H3 =>
    if b = true then tk σ2 H3 fun y H4 => tv σ2 H4 fun z H5 => ∃ kvs k c, y = .ref c ∧ H5 c = some (.tup (k.map kV)) ∧ H5 D = some (.dT kvs) ∧ kvs.length < sizeLine ∧ Nx (upd H5 D (.dT (putK kvs k z))) else Nx H3)
theorem pe_dcT {X : Cx} {kx vx tg iter : Expr} {ifs : List Expr} {scope : Scope} {own : List (Str × Nat)} {pos : Pos} {wi : TI} {g : TG} {tt : TT} {tk tv : TE} (hu : X.A.units < cLine) (calm : X.calm = true) (nd : X.N.Nodup) (walk : PI X tg iter wi) (ok : BlkOk X.N X.env.scope scope own)
    (gok : ∀ (t : Shared) (G : Hp) (C : Addr) (cl : List (Str × Addr)) (fp : List Addr), PG (X.blk t G scope (compEnvC scope cl C X.env) fp) tg g) (tok : ∀ (t : Shared) (G : Hp) (C : Addr) (cl : List (Str × Addr)) (fp : List Addr), PTs (X.blk t G scope (compEnvC scope cl C X.env) fp) ifs tt)
    (kok : ∀ (t : Shared) (G : Hp) (C : Addr) (cl : List (Str × Addr)) (fp : List Addr), PE (X.blk t G scope (compEnvC scope cl C X.env) fp) kx tk)
    (vok : ∀ (t : Shared) (G : Hp) (C : Addr) (cl : List (Str × Addr)) (fp : List Addr), PE (X.blk t G scope (compEnvC scope cl C X.env) fp) vx tv) (fold : ∀ x, foldedSetIterable iter X.env x = pure x) :
    PE X (.DictComp kx vx [⟨tg, iter, ifs, 0⟩] scope pos) (tDcT wi g tt tk tv (own.map (·.2))) := by
  refine ⟨fun pins t0 σ G Q I0 h => ?_⟩
  rw [arm_eval_DictComp]
  have cap : ∀ y ∈ scope.names, y.2 = .free → ∃ c, X.env.cells.lookup y.1 = some c := fun y hy e => (ok.free y hy e).elim (fun k => I0.ok.has _ (.inl k)) fun k => I0.ok.has _ (.inr k)
  refine wpAny_comprehension_free (use := none) rfl fold (closure_ok cap) ok.kind (fun y hy e => by rw [ok.uniq y hy, e]) (thn (walk.run pins t0 σ G _ I0 h) fun xv t1 hx => thn hx fun itv t2 h2 => ?_)
  obtain ⟨it, fp, tn, J, G2, rfl, J2, T, a2, p2, q⟩ := h2
  refine wpAny_newObj_type (newEnv_comp ?_)
  generalize eD : t2.heap.objs.size = D
  obtain ⟨W, ⟨m0, w0⟩, turn⟩ := q D (J2.hok.fresh (Nat.le_of_eq eD))
  generalize e3 : ({ t2 with heap := t2.heap.push { cls := .type "dict", data := .dict #[] } } : Shared) = t3
  have J3 : Inv X pins σ (upd G2 D (.dT [])) t3 := by
    rw [← e3]
    exact J2.laid (t' := t2.toks) (fun b o e => Heap.get?_push_of_some _ e) (Nat.le_of_eq eD) (by rw [← eD]; exact dt_empty t2.heap J2.big)
  have h3 : t3.heap = t2.heap.push { cls := .type "dict", data := .dict #[] } := by rw [← e3]
  have p3 : ∀ b ∈ fp, FpOk X pins (upd G2 D (.dT [])) b ∧ b < t3.heap.objs.size := fun b hb => by
    obtain ⟨o, e, _⟩ := T.obj _ _ a2 b hb
    have lt := Heap.lt_size e
    refine ⟨⟨?_, (p2 b hb).2⟩, by rw [h3, Heap.size_push]; exact Nat.lt_succ_of_lt lt⟩
    rw [upd_ne (by rw [← eD]; exact Nat.ne_of_lt lt)]
    exact (p2 b hb).1
  have a3 : tn 0 t3.heap := T.keep _ _ _ a2 fun b _ o e => by rw [h3]; exact Heap.get?_push_of_some _ e
  have J4 := block_start J3 ok nd p3
  generalize eC : t3.heap.objs.size = C at J4 ⊢
  generalize eG : upd G2 D (.dT []) = G3 at J3 J4 w0 p3
  generalize ecl : cellsFrom (C + 1) scope.names (cloFrom X.env.cells scope.names []) = cl at J4 ⊢
  have bg := gok t3 G3 C cl fp
  have bt := tok t3 G3 C cl fp
  have bk := kok t3 G3 C cl fp
  have bv := vok t3 G3 C cl fp
  show codeAny _ _ (.compStart (.DictComp kx vx [⟨tg, iter, ifs, 0⟩] scope pos) 0 (.ref it) (.ref D) (compEnvC scope cl C X.env)) (compPost (model X.prog X.w) X.A X.xe none (EP X pins σ Q) (.ref D) C) { t3 with heap := pushCells (t3.heap.push { cls := .type "dict", data := .dict #[] }) scope.names }
  generalize e4 : ({ t3 with heap := pushCells (t3.heap.push { cls := .type "dict", data := .dict #[] }) scope.names } : Shared) = t4 at J4 ⊢
  have a4 : tn 0 t4.heap := T.keep _ _ _ a3 fun b _ o e => by rw [← e4]; exact pushCells_keeps _ _ _ _ (Heap.get?_push_of_some _ e)
  let B := X.blk t3 G3 scope (compEnvC scope cl C X.env) fp
  have own_ : ∀ {σ' : L2.St} {G' : Hp} {t' : Shared}, Inv B [] σ' G' t' → (∀ b ∈ fp, G' b = none) → ∀ b ∈ fp, FpOk B [] G' b := fun {σ' G' t'} I' hn b hb =>
    ⟨hn b hb, (I'.ok.exf b hb).1, I'.ok.exfs b hb, .inl hb, fun x c e => (I'.ok.exf b hb).2 x c e, fun p hp => absurd (show p ∈ ([] : List (Addr × Obj)) ++ [] from hp) (by simp)⟩
  have run : codeAny (model X.prog X.w) X.A (.compLoop (.DictComp kx vx [⟨tg, iter, ifs, 0⟩] scope pos) 0 (.ref it) (.ref D) (compEnvC scope cl C X.env)) (compPost (model X.prog X.w) X.A X.xe none (EP X pins σ Q) (.ref D) C) t4 := by
    refine compLoop_anyD (fun n t' => ∃ i G', Inv B [] (wipe σ (own.map (·.2))) G' t' ∧ tn i t'.heap ∧ (∀ b ∈ fp, G' b = none) ∧ W i n G') ?_ m0 ⟨0, G3, J4, a4, fun b hb => (p3 b hb).1.1, w0⟩
    rintro n t5 ⟨i, G5, J5, a5, n5, w5⟩
    rcases turn i n G5 w5 with ⟨stop, qq⟩ | ⟨go, Nx, hNx, step⟩
    · refine thnF (T.done B rfl rfl rfl calm i [] t5 _ G5 (fun _ _ => False) J5 (own_ J5 n5) a5 stop) fun r t6 ⟨hr, J6⟩ => ?_
      subst hr
      have J7 : Inv X pins σ G5 t6 := J3.call' (ch := fp) J6.os J6.base J6.hok J6.bare fun b hb => ⟨(p3 b hb).1.2.2.2.1, (p3 b hb).1.2.1, (p3 b hb).1.2.2.2.2.1, (p3 b hb).1.2.2.2.2.2⟩
      have nC : G5 C = none := J6.free
      obtain ⟨m, ns, _⟩ := J6.loc
      obtain ⟨f0, f1, f2, f3, f4, f5⟩ := J3.fpOk (Nat.le_of_eq eC) nC
      exact ⟨m, ns, fun h'' sb => ⟨.ref D, G5, J7.turned (t' := t6.toks) (fun b o hb e => (sb.2 b hb).trans e) f0 f1 f3 f4 f5, rfl, qq⟩⟩
    · refine thnF (T.item B rfl rfl rfl calm i [] t5 _ G5 (fun _ _ => False) J5 (own_ J5 n5) a5 go) fun r t6 ⟨u, hr, h6⟩ => ?_
      subst hr
      refine thnF h6 fun _ t7 ⟨x, G7, J7, r7, y7, a7, n7⟩ => ?_
      have J7' := J7.pinned (own_ J7 n7) (T.obj _ _ a7)
      refine thnF (bg.run _ t7 _ G7 x u _ J7' r7 (step x G7 y7)) fun _ t8 ⟨σ8, G8, J8, w8, q8⟩ => thnF (bt.run _ t8 σ8 G8 _ J8 q8) fun b t9 ⟨G9, J9, q9⟩ => ?_
      have fin : ∀ {t' : Shared} {G' : Hp}, Inv B ([] ++ pinsAt fp t7.heap) σ8 G' t' → Nx G' → ∃ m, m < n ∧ ∃ i G', Inv B [] (wipe σ (own.map (·.2))) G' t' ∧ tn i t'.heap ∧ (∀ b ∈ fp, G' b = none) ∧ W i m G' := fun {t' G'} I' nx => by
        obtain ⟨m', lm, w'⟩ := hNx G' nx
        have pin : ∀ b ∈ fp, ∀ o, t7.heap.get? b = some o → t'.heap.get? b = some o ∧ G' b = none := fun b hb o e => by
          have z := I'.pin (b, o) (List.mem_append_right _ (List.mem_append_right _ (mem_pinsAt hb e)))
          exact ⟨z.1, z.2.1⟩
        refine ⟨m', lm, i + 1, G', (I'.unpinned (pins := [])).weak (by rw [← w8, wipe_length]) (fun j v e => (wipe_some (by rw [w8]; exact e)).1), T.keep _ _ _ a7 fun b hb o e => (pin b hb o e).1, fun b hb => ?_, w'⟩
        obtain ⟨o, e, _⟩ := T.obj _ _ a7 b hb
        exact (pin b hb o e).2
      cases b with
      | false =>
        simp only [Bool.false_eq_true, if_false] at q9 ⊢
        exact fin J9 q9
      | true =>
        simp only [if_true] at q9 ⊢
        refine thnF (bk.run _ t9 σ8 G9 _ J9 q9) fun z t10 ⟨yk, G10, J10, r10, q10⟩ => thnF (bv.run _ t10 σ8 G10 _ J10 q10) fun z2 t11 ⟨yv, G11, J11, r11, kvs, k, c, ek, hc, hD, few, nx⟩ => ?_
        subst ek
        cases r10
        exact put_dictT (X := B) hu J11 hD few hc r11 fun t12 J12 => fin J12 nx
  exact codeAny_compStart_dict run (T.self X.A 0 _ _ _ a4 run)
end Dl

/-! ### its meaning -/
namespace Dl
open PySem PySem.Spec PyProof.Rows L2
def dcRunT (js : List Nat) (gd : PyData → Sl → Option Sl) (t : DT) (fk fv : DE) : List PyData → List (List Key × PyData) → Sl → Option (List (List Key × PyData) × Sl)
  | [], acc, s => some (acc, fgS s js)
  | d :: r, acc, s => (gd d (fgS s js)).bind fun s0 => (t s0).bind fun p => if noOwnB js p.2 = true then (if p.1 = true then (fk p.2).bind fun a => (fv a.2).bind fun b => if noOwnB js b.2 = true then (keyT a.1).bind fun kk => dcRunT js gd t fk fv r (putL acc kk b.1) b.2 else none else dcRunT js gd t fk fv r acc p.2) else none
def dDcT (fi : DF) (js : List Nat) (gd : PyData → Sl → Option Sl) (t : DT) (fk fv : DE) : DE := fun s => (fi s).bind fun p => if (js.all fun j => isNo p.2[j]?) = true ∧ p.1.length < sizeLine then (dcRunT js gd t fk fv p.1 [] p.2).map fun q => (.dict ((.none, .none) :: kvD q.1), q.2) else none
theorem putL_len {κ : Type} [DecidableEq κ] (ds : List (κ × PyData)) (k : κ) (d : PyData) : (putL ds k d).length ≤ ds.length + 1 := by
  unfold putL
  split
  · rw [List.length_map]; omega
  · rw [List.length_append]; exact Nat.le_refl _
section
variable {X : Cx} {Z : Par} {tg : Expr} {pos : Pos} {fk fv : DE} {ff : DF} {t : DT} {g : TG} {gd : PyData → Sl → Option Sl}
theorem lift_dcT {K : PySem.W.Frag} {js : List Nat} {σ : L2.St} {H : Hp} {Q : VK} {T : TT} {Ek Ev : TE} (hT : ∀ Z σ H Q, lfT K Z t σ H Q → T σ H Q) (hK : ∀ Z σ H Q, lft K Z fk σ H Q → Ek σ H Q) (hV : ∀ Z σ H Q, lft K Z fv σ H Q → Ev σ H Q) (hgd : TgW K js g gd) (h : lft K Z (dDcT ff js gd t fk fv) σ H Q) : tDcT (lfIG K Z ff) g T Ek Ev js σ H Q := by
  obtain ⟨M, s, ds, s', rl, hf, k⟩ := h
  unfold dDcT at hf
  simp only [Option.bind_eq_some_iff] at hf
  obtain ⟨⟨is, s1⟩, h1, h2⟩ := hf
  dsimp only at h2
  split at h2
  case isFalse => cases h2
  rename_i hc
  simp only [Option.map_eq_some_iff] at h2
  obtain ⟨⟨res, s9⟩, h2, h3⟩ := h2
  cases h3
  have hno : ∀ j ∈ js, s1[j]? = some .no := fun j hj => isNo_eq (List.all_eq_true.mp hc.1 j hj)
  refine ⟨M, s, is, s1, rl, h1, fun J H1 k1 r1 y D hD => ?_⟩
  have hD0 : H D = none := by
    cases q : H D with
    | none => rfl
    | some o =>
      by_cases m : Mu Z M D
      · obtain ⟨u, e⟩ := r1.muT D m
        rw [hD] at e; cases e
      · have := (k1.kp D o q m).1
        rw [hD] at this; cases this
  have npp : D ∉ Z.p := fun z => by
    obtain ⟨o, e⟩ := r1.pt D z
    rw [hD] at e; cases e
  have nDM : D ∉ M := fun z => by
    obtain ⟨_, _, _, o, e⟩ := r1.fr D z
    rw [hD] at e; cases e
  have nMu : ¬ Mu Z M D := fun z => by
    obtain ⟨u, e⟩ := r1.muT D z
    rw [hD] at e; cases e
  have n0 : Z.H0 D = none := by
    cases q : Z.H0 D with
    | none => rfl
    | some o =>
      have := r1.base D o q npp
      rw [hD] at this; cases this
  let Kd : Hp → Prop := fun H' => ∀ a o, H1 a = some o → a ∉ Z.p → a ∉ M → H' a = some o
  have kdy : ∀ {H'}, Kd H' → Kp (Mu Z M) H1 (Mu (Z.add D) M) H' := fun {H'} q a o e n => ⟨q a o e (fun z => n (.inr (.inl z))) (fun z => n (.inr (.inr z))), fun z => (mu_add.mp z).elim n (ne_of_none e hD)⟩
  let Wv : Nat → Hp → Prop := fun i H' => ∃ sw kvs dacc, Kd H' ∧ Rel K (Z.add D) M (wipe σ js) H' (fgS sw js) ∧
    H' D = some (.dT kvs) ∧ DtKT K (Mu (Z.add D) M) H' kvs dacc ∧ dacc.length ≤ i ∧ dcRunT js gd t fk fv (is.drop i) dacc sw = some (res, s9)
  refine ⟨fun i m H' => m = is.length - i ∧ i ≤ is.length ∧ Wv i H', ⟨is.length, by simp, Nat.zero_le _, s1, [], [], fun a o e _ _ => grow_new hD a o e, ?_, upd_same, .nil, Nat.le_refl _, h2⟩, ?_⟩
  · have q := r1.addNew hD (.dT [])
    exact q.withSl (q.sl.fg js fun j hj => ⟨fun ds e => (by rw [hno j hj] at e; cases e), fun c e => (by rw [hno j hj] at e; cases e)⟩)
  rintro i m H' ⟨rfl, hi, sw, kvs, dacc, k2, r2, e1, e2, e3, e4⟩
  by_cases hlt : i < is.length
  · have ed : is.drop i = is[i] :: is.drop (i + 1) := List.drop_eq_getElem_cons hlt
    rw [ed] at e4
    unfold dcRunT at e4
    simp only [Option.bind_eq_some_iff] at e4
    obtain ⟨s0, e0, ⟨b, s3⟩, e6, e7⟩ := e4
    dsimp only at e7
    split at e7
    case isFalse => cases e7
    rename_i n3
    have yy := y _ _ (kdy k2) r2.muT i
    refine .inr ⟨(yy.1 hlt).1, Wv (i + 1), fun H3 q => ⟨is.length - (i + 1), by omega, rfl, hlt, q⟩, fun x H'' hy => ?_⟩
    obtain ⟨gr, d, e8, e9⟩ := (yy.1 hlt).2 x H'' hy
    rw [List.getElem?_eq_getElem hlt] at e8
    cases e8
    have k2 : Kd H'' := fun a o e n1 n2 => gr a o (k2 a o e n1 n2)
    have e1 : H'' D = some (.dT kvs) := gr _ _ e1
    have e2 := e2.mono (kp_grow (mu := Mu (Z.add D) M) gr)
    refine hgd (Z.add D) M _ H'' _ s0 x _ _ (r2.grow gr) (fun j hj => fgS_mem hj) e9 e0 fun σ3 w3 no3 r3 => ?_
    rw [wipe_idem] at w3
    refine ⟨w3, ?_⟩
    have back : ∀ {H4 : Hp} {s4 : Sl}, Rel K (Z.add D) M σ3 H4 s4 → (∀ j ∈ js, NoOwn s4[j]?) → Rel K (Z.add D) M (wipe σ js) H4 (fgS s4 js) := fun {H4 s4} r4 hs4 => by
      have q := r4.sl.fg js hs4
      rw [w3] at q
      exact r4.withSl q
    refine hT (Z.add D) _ _ _ ⟨M, _, b, s3, r3, e6, fun H4 k4 r4 => ?_⟩
    have eD4 : H4 D = some (.dT kvs) := (k4 D _ e1 npp nDM).1
    have kd4 : Kd H4 := fun a o e n1 n2 => (k4 a o (k2 a o e n1 n2) n1 n2).1
    cases b with
    | true =>
      rw [if_pos rfl] at e7
      simp only [Option.bind_eq_some_iff] at e7
      obtain ⟨⟨da, s4⟩, e10, ⟨db, s5⟩, e11, e12⟩ := e7
      dsimp only at e11 e12
      split at e12
      case isFalse => cases e12
      rename_i n4
      simp only [Option.bind_eq_some_iff] at e12
      obtain ⟨kk, e12, e13⟩ := e12
      refine iteT ?_
      refine hK (Z.add D) _ _ _ ⟨M, s3, da, s4, r4, e10, fun v H5 k5 r5 t5 => hV (Z.add D) _ _ _ ⟨M, s4, db, s5, r5, e11, fun w H6 k6 r6 t6 => ?_⟩⟩
      obtain ⟨c, rfl, hb⟩ := (t5.mono k6.kp).keyT e12
      have eD5 : H5 D = some (.dT kvs) := (k5 D _ eD4 npp nDM).1
      have eD6 : H6 D = some (.dT kvs) := (k6 D _ eD5 npp nDM).1
      have nm : Mu (Z.add D) M D := .inl (.inr rfl)
      have kw : Kp (Mu (Z.add D) M) H6 (Mu (Z.add D) M) (upd H6 D (.dT (putK kvs kk w))) := fun a u e n => ⟨by
        have na : a ≠ D := fun z => n (by rw [z]; exact nm)
        rw [upd_ne na]; exact e, n⟩
      have e6' := e2.mono (k4.kp.trans (k5.kp.trans k6.kp))
      have lk := e6'.len
      refine ⟨kvs, kk, c, rfl, hb, eD6, by omega, s5, putK kvs kk w, putL dacc kk db, fun a o e n1 n2 => ?_, (back r6 (noOwnB_ne n4)).wrAdd npp _ n0, upd_same, (e6'.put kk t6).mono kw, Nat.le_trans (putL_len _ _ _) (Nat.succ_le_succ e3), e13⟩
      have na : a ≠ D := ne_of_none e hD
      rw [upd_ne na]
      exact (k6 a o (k5 a o (kd4 a o e n1 n2) n1 n2).1 n1 n2).1
    | false =>
      rw [if_neg (by simp)] at e7
      refine iteF ?_
      exact ⟨s3, kvs, dacc, kd4, back r4 (noOwnB_ne n3), eD4, e2.mono k4.kp, by omega, e7⟩
  · have e : i = is.length := by omega
    subst e
    rw [List.drop_length] at e4
    cases e4
    refine .inl ⟨(y _ _ (kdy k2) r2.muT _).2 (Nat.le_refl _), ?_⟩
    have r3 : Rel K (Z.add D) M σ H' (fgS sw js) := r2.withSl (r2.sl.unfg js fun j hj l => by
      rw [fgS_len] at l
      rw [fgS_get, if_pos ⟨hj, l⟩])
    exact k (.ref D) H' (fun a o e n1 n2 => ⟨k2 a o (k1 a o e n1 n2).1 n1 n2, n2⟩) r3.unadd (.dcT e1 nMu (e2.mono kp_drop))
theorem ddcT {kx vx iter : Expr} {ifs : List Expr} {scope : Scope} {own : List (Str × Nat)} {js : List Nat} (hu : X.A.units < cLine) (hc : X.calm = true) (hN : X.N.Nodup) (hi : PI X tg iter (lfIG X.K Z ff)) (ok : BlkOk X.N X.env.scope scope own)
    (hg : ∀ (s : Shared) (H : Hp) (C : Addr) (cl : List (Str × Addr)) (fp : List Addr), PG (X.blk s H scope (compEnvC scope cl C X.env) fp) tg g) (hgd : TgW X.K js g gd)
    (ht : ∀ (s : Shared) (H : Hp) (C : Addr) (cl : List (Str × Addr)) (fp : List Addr) (Z : Par), PTs (X.blk s H scope (compEnvC scope cl C X.env) fp) ifs (lfT X.K Z t))
    (hk : ∀ (s : Shared) (H : Hp) (C : Addr) (cl : List (Str × Addr)) (fp : List Addr) (Z : Par), PE (X.blk s H scope (compEnvC scope cl C X.env) fp) kx (lft X.K Z fk))
    (hv : ∀ (s : Shared) (H : Hp) (C : Addr) (cl : List (Str × Addr)) (fp : List Addr) (Z : Par), PE (X.blk s H scope (compEnvC scope cl C X.env) fp) vx (lft X.K Z fv)) (hs : ∀ x, foldedSetIterable iter X.env x = pure x := by intro _; rfl) (hjs : own.map (·.2) = js := by rfl) :
    PE X (.DictComp kx vx [⟨tg, iter, ifs, 0⟩] scope pos) (lft X.K Z (dDcT ff js gd t fk fv)) := by
  subst hjs
  exact PEimp (pe_dcT hu hc hN hi ok hg (tt := fun σ H Q => ∃ Z, lfT X.K Z t σ H Q) (tk := fun σ H Q => ∃ Z, lft X.K Z fk σ H Q) (tv := fun σ H Q => ∃ Z, lft X.K Z fv σ H Q)
    (fun s H0 C cl fp => ⟨fun pins s' σ H Q I ⟨Z, q⟩ => (ht s H0 C cl fp Z).run pins s' σ H Q I q⟩) (fun s H0 C cl fp => ⟨fun pins s' σ H Q I ⟨Z, q⟩ => (hk s H0 C cl fp Z).run pins s' σ H Q I q⟩) (fun s H0 C cl fp => ⟨fun pins s' σ H Q I ⟨Z, q⟩ => (hv s H0 C cl fp Z).run pins s' σ H Q I q⟩) hs) fun σ H Q h => lift_dcT (fun Z _ _ _ q => ⟨Z, q⟩) (fun Z _ _ _ q => ⟨Z, q⟩) (fun Z _ _ _ q => ⟨Z, q⟩) hgd h
end
end Dl

/-! ### a dict of one's own, looked into while it is filled -/
namespace Dl
open PySem PySem.Spec PyProof.Rows L2
def lookO (c : Ct) (k : PyData) : Option (Option PyData) := match c with
  | .kT ds => (keyT k).map fun kk => getL ds kk
  | .kK ds => (kOf k).map fun kk => getF ds kk
def dInO (neg : Bool) (fe : DE) (i : Nat) : DE := fun s => (fe s).bind fun p => (dicAt p.2 i).bind fun c => (lookO c p.1).map fun o => (.bool (if neg then o.isNone else o.isSome), p.2)
theorem lookO_ok {K : PySem.W.Frag} {mu : Addr → Prop} {H : Hp} {a : Addr} {y : V} {k : PyData} {c : Ct} {o : Option PyData} (t : CtOk K mu H a c) (u : Dt K mu H y k) (e : lookO c k = some o) : ∃ ov, DGet H a y ov ∧ SameO K mu H ov o := by
  cases c with
  | kT ds =>
    obtain ⟨kvs, h, t⟩ := t
    have e : (keyT k).map (fun kk => getL ds kk) = some o := e
    simp only [Option.map_eq_some_iff] at e
    obtain ⟨kk, e1, rfl⟩ := e
    obtain ⟨b, rfl, hb⟩ := u.keyT e1
    exact ⟨_, DGet.t h hb, t.get kk⟩
  | kK ds =>
    obtain ⟨kvs, h, t⟩ := t
    have e : (kOf k).map (fun kk => getF ds kk) = some o := e
    simp only [Option.map_eq_some_iff] at e
    obtain ⟨kk, e1, rfl⟩ := e
    obtain rfl := u.keyF e1
    exact ⟨_, DGet.k h, t.get kk⟩
section
variable {X : Cx} {Z : Par} {a b : Expr} {pos : Pos} {fa : DE}
theorem lift_inO {neg : Bool} {i : Nat} {σ : L2.St} {H : Hp} {Q : VK} (h : lft X.K Z (dInO neg fa i) σ H Q) : lft X.K Z fa σ H fun y H1 => tVar i σ H1 fun x H2 => ∃ a ov, x = .ref a ∧ DGet H2 a y ov ∧ Q (.bl (if neg then !ov.isSome else ov.isSome)) H2 := by
  obtain ⟨M, s, d, s', rl, hf, k⟩ := h
  unfold dInO at hf
  simp only [Option.bind_eq_some_iff, Option.map_eq_some_iff] at hf
  obtain ⟨⟨d1, s1⟩, h1, c, h2, o, h3, h4⟩ := hf
  cases h4
  refine ⟨M, s, d1, _, rl, h1, fun y H1 k1 r1 t1 => ?_⟩
  obtain ⟨a0, g1, ct, _⟩ := r1.atD (dicAt_eq h2)
  obtain ⟨ov, g, so⟩ := lookO_ok ct t1 h3
  refine ⟨.ref a0, g1, a0, ov, rfl, g, ?_⟩
  have e := sameO_is so
  cases o with
  | none =>
    have e' : ov.isSome = false := e
    rw [e']
    exact k _ H1 k1 r1 (.bl _)
  | some d =>
    have e' : ov.isSome = true := e
    rw [e']
    exact k _ H1 k1 r1 (.bl _)
theorem dinO (i : Nat) (hu : X.A.units + 1 < cLine) (ha : PE X a (lft X.K Z fa)) (hb : PE X b (tVar i)) (hm : behindInMarks .In b = false := by with_unfolding_all rfl) : PE X (.Compare a [.In] [b] pos) (lft X.K Z (dInO false fa i)) := PEimp (pe_cmp (pc_din hu ha hb) hm) fun σ H Q h => lift_inO h
theorem dnotinO (i : Nat) (hu : X.A.units + 1 < cLine) (ha : PE X a (lft X.K Z fa)) (hb : PE X b (tVar i)) (hm : behindInMarks .NotIn b = false := by with_unfolding_all rfl) : PE X (.Compare a [.NotIn] [b] pos) (lft X.K Z (dInO true fa i)) := PEimp (pe_cmp (pc_dnotin hu ha hb) hm) fun σ H Q h => lift_inO h
theorem lift_inOT {neg : Bool} {i : Nat} {σ : L2.St} {H : Hp} {Q : Bool → Hp → Prop} (h : lfT X.K Z (dTst (dInO neg fa i)) σ H Q) : lft X.K Z (dInO neg fa i) σ H fun v H' => ∃ b, v = .bl b ∧ Q b H' := by
  obtain ⟨M, s, b, s', rl, hf, k⟩ := h
  exact ⟨M, s, .bool b, s', rl, dTst_some hf, fun v H' k1 r1 t1 => ⟨b, t1.bool, k H' k1 r1⟩⟩
theorem dtinO (i : Nat) (hu : X.A.units + 1 < cLine) (ha : PE X a (lft X.K Z fa)) (hb : PE X b (tVar i)) (hm : behindInMarks .In b = false := by with_unfolding_all rfl) : PT X (.Compare a [.In] [b] pos) (lfT X.K Z (dTst (dInO false fa i))) := PTimp (pt_cmp (pc_din hu ha hb) hm) fun σ H Q h => lift_inO (lift_inOT h)
theorem dtnotinO (i : Nat) (hu : X.A.units + 1 < cLine) (ha : PE X a (lft X.K Z fa)) (hb : PE X b (tVar i)) (hm : behindInMarks .NotIn b = false := by with_unfolding_all rfl) : PT X (.Compare a [.NotIn] [b] pos) (lfT X.K Z (dTst (dInO true fa i))) := PTimp (pt_cmp (pc_dnotin hu ha hb) hm) fun σ H Q h => lift_inO (lift_inOT h)
end
/-- {} as a dict by tuples -/
theorem ddctT {X : Cx} {Z : Par} {pos : Pos} : PE X (.Dict [] [] pos) (lft X.K Z (dC (.dict [(.none, .none)]))) := PEimp pe_dnewT fun σ H Q h => by
  obtain ⟨M, s, d, s', rl, hf, k⟩ := h
  cases hf
  intro p hp
  exact k _ _ (kq_grow (grow_new hp)) (rl.grow (grow_new hp)) (.dcT (ds := []) upd_same (nomu_new rl.muT hp) .nil)
end Dl

/-! ### zip of a list or a tuple and a list or a tuple -/
namespace Dl
open PySem PySem.Spec PyProof.Rows L2
def IsB (tb : Bool) (h : Heap) (l : Addr) (items : Array Value) : Prop := if tb = true then h.IsTuple l items else h.IsList l items
def ItB (tb : Bool) (h : Heap) (it l : Addr) (i : Nat) : Prop := if tb = true then h.IsTupleIter it l i else h.IsListIter it l i
def SqB (tb : Bool) (K : PySem.W.Frag) (H : Hp) (a : Addr) (xs : List V) : Prop := if tb = true then SqT K H a xs else SqL K H a xs
def obB (tb : Bool) (l : Addr) : Obj := if tb = true then { cls := .type "tuple_iterator", data := .fields #[.ref l, .int 0 0] } else { cls := .type "list_iterator", data := .fields #[.ref l, .int 0 0] }
section
variable {prog : Program} {w : World} {A : Around}
theorem ItB.live {tb : Bool} {h : Heap} {it l : Addr} {i : Nat} (st : ItB tb h it l i) : ∃ o, h.get? it = some o ∧ ∀ v, o.data ≠ .cell v := by
  cases tb with
  | true => obtain ⟨o, q1, _, q2⟩ := (show h.IsTupleIter it l i from st); exact ⟨o, q1, fun v z => by rw [q2] at z; cases z⟩
  | false => obtain ⟨o, q1, _, q2⟩ := (show h.IsListIter it l i from st); exact ⟨o, q1, fun v z => by rw [q2] at z; cases z⟩
theorem ItB.to {tb : Bool} {h h' : Heap} {it l : Addr} {i : Nat} (st : ItB tb h it l i) (k : ∀ o, h.get? it = some o → h'.get? it = some o) : ItB tb h' it l i := by
  cases tb with
  | true => exact (show h.IsTupleIter it l i from st).at k
  | false => exact (show h.IsListIter it l i from st).at k
theorem IsB.to {tb : Bool} {h h' : Heap} {l : Addr} {ws : Array Value} (st : IsB tb h l ws) (k : ∀ o, h.get? l = some o → h'.get? l = some o) : IsB tb h' l ws := by
  cases tb with
  | true => exact (show h.IsTuple l ws from st).at k
  | false => exact (show h.IsList l ws from st).at k
theorem IsB.lt {tb : Bool} {h : Heap} {l : Addr} {ws : Array Value} (st : IsB tb h l ws) : l < h.objs.size := by
  cases tb with
  | true => obtain ⟨o, q, _⟩ := (show h.IsTuple l ws from st); exact Heap.lt_size q
  | false => obtain ⟨o, q, _⟩ := (show h.IsList l ws from st); exact Heap.lt_size q
def StB (tb : Bool) (it l : Addr) (ws : Array Value) (i : Nat) (h : Heap) : Prop := ItB tb h it l i ∧ IsB tb h l ws
theorem draws_B (hh : A.handled = none) (tb : Bool) {it l : Addr} (hne : l ≠ it) (ws : Array Value) : Draws prog w A it [it, l] ws.size (fun i v => ws[i]? = some v) (StB tb it l ws) := by
  cases tb with
  | true => exact Draws.tuple hh it l hne ws
  | false => exact Draws.list hh it l hne ws
/-- at its end, at whatever place -/
theorem draws_E (hh : A.handled = none) (tb : Bool) {it l : Addr} (ws : Array Value) (n : Nat) (e : ws[n]? = none) : Draws prog w A it [it, l] n (fun _ _ => False) (fun i h => i = n ∧ StB tb it l ws i h) where
  live := fun i h st => by
    obtain ⟨o, q, _⟩ := st.2.1.live
    exact ⟨o, q⟩
  frame := fun i h h' st k => ⟨st.1, st.2.1.to fun o q => k it (by simp) o q, st.2.2.to fun o q => k l (by simp) o q⟩
  item := fun i s Q E hi st _ => absurd hi (by rw [st.1]; exact Nat.lt_irrefl n)
  done := fun s Q E st hE => by
    cases tb with
    | true => exact wpAny_nextOf_tuple_end hh (show s.heap.IsTupleIter it l n from st.2.1) st.2.2 e hE
    | false => exact wpAny_nextOf_list_end hh (show s.heap.IsListIter it l n from st.2.1) st.2.2 e hE
theorem begins_B (tb : Bool) (l : Addr) (ws : Array Value) : Begins (.ref l) (obB tb l) fun h => IsB tb h l ws := by
  cases tb with
  | true => exact begins_tuple l ws
  | false => exact begins_list l ws
theorem it_new {tb : Bool} {h : Heap} {it l : Addr} (e : h.get? it = some (obB tb l)) : ItB tb h it l 0 := by
  cases tb with
  | true => exact ⟨_, e, rfl, rfl⟩
  | false => exact ⟨_, e, rfl, rfl⟩
end
section
variable {X : Cx} {pins : List (Addr × Obj)} {σ : L2.St} {H : Hp} {s : Shared}
theorem SqB.at_ {tb : Bool} {a : Addr} {xs : List V} (I : Inv X pins σ H s) (h : SqB tb X.K H a xs) : ∃ ws : List Value, Vals xs ws ∧ IsB tb s.heap a ws.toArray := by
  cases tb with
  | true => obtain ⟨ws, rv, p, _⟩ := I.tuple (show SqT X.K H a xs from h); exact ⟨ws, rv, p⟩
  | false => obtain ⟨ws, rv, p, _⟩ := I.list (show SqL X.K H a xs from h); exact ⟨ws, rv, p.isList⟩
theorem SqB.inj {tb : Bool} {a : Addr} {xs ys : List V} (I : Inv X pins σ H s) (h : SqB tb X.K H a xs) (k : SqB tb X.K H a ys) : xs = ys := by
  cases tb with
  | true => exact I.tuple_inj h k
  | false => exact I.list_inj h k
end
def ItzB (K : PySem.W.Frag) (t1 t2 : Bool) (a b : Addr) : It :=
  ⟨fun i H => ∃ (xs ys : List V) (x y : V), SqB t1 K H a xs ∧ SqB t2 K H b ys ∧ xs[i]? = some x ∧ ys[i]? = some y,
    fun i H v H' => ∃ T x y, v = .ref T ∧ H T = none ∧ H' = upd H T (.tup [x, y]) ∧ (∀ xs, SqB t1 K H a xs → xs[i]? = some x) ∧ ∀ ys, SqB t2 K H b ys → ys[i]? = some y,
    fun i H => ∃ xs ys : List V, SqB t1 K H a xs ∧ SqB t2 K H b ys ∧ (xs.length ≤ i ∨ ys.length ≤ i)⟩
def TnB (t1 t2 : Bool) (z TI TO i1 i2 a b : Addr) (i : Nat) (h : Heap) : Prop := (IsZip h z TI TO .none ∧ IsPair h TI (.ref i1) (.ref i2) ∧ ∃ x y, IsPair h TO x y) ∧ ItB t1 h i1 a i ∧ ItB t2 h i2 b i
theorem sep_B {z TI TO i1 i2 a b : Addr} (D : ZipApart z TI TO i1 i2 a b) : ZipSep2 z TI TO i1 i2 [i1, a] [i2, b] where
  TIz := D.TIz
  TOz := D.TOz
  TITO := D.TITO
  TIi1 := D.TIi1
  mem1 := by simp
  zf1 := by simp [D.i1z.symm, D.l1z.symm]
  Tf1 := by simp [D.TOi1, D.l1TO.symm]
  TIi2 := D.TIi2
  mem2 := by simp
  zf2 := by simp [D.i2z.symm, D.l2z.symm]
  Tf2 := by simp [D.TOi2, D.l2TO.symm]
  sep1_2 := by simp [D.i12, D.l2i1.symm]
  sep2_1 := by simp [D.i12.symm, D.l1i2.symm]
theorem turn_B {P : Program} {w : World} {K : PySem.W.Frag} {elts : List Expr} {kk : Nat} {tpos : Pos} (t1 t2 : Bool) {a b z TI TO i1 i2 : Addr} (D : ZipApart z TI TO i1 i2 a b) : Turn P w K (.Tuple elts kk tpos) (ItzB K t1 t2 a b) [z, TI, TO, i1, i2] z (TnB t1 t2 z TI TO i1 i2 a b) where
  mem := by simp
  obj := fun i h st c hc => by
    obtain ⟨⟨gz, gI, u, v, gO⟩, g1, g2⟩ := st
    simp only [List.mem_cons, List.not_mem_nil, or_false] at hc
    rcases hc with e | e | e | e | e <;> subst e
    · exact ⟨_, gz, fun v q => nomatch q⟩
    · exact ⟨_, gI, fun v q => nomatch q⟩
    · exact ⟨_, gO, fun v q => nomatch q⟩
    · exact g1.live
    · exact g2.live
  keep := fun i h h' st k => by
    obtain ⟨⟨gz, gI, u, v, gO⟩, g1, g2⟩ := st
    exact ⟨⟨k z (by simp) _ gz, k TI (by simp) _ gI, u, v, k TO (by simp) _ gO⟩, g1.to fun o q => k i1 (by simp) o q, g2.to fun o q => k i2 (by simp) o q⟩
  item := by
    intro X eP ew eK hc i pins s σ H E I hf st hg
    subst eP ew eK
    obtain ⟨⟨gz, gI, u, v, gO⟩, g1, g2⟩ := st
    obtain ⟨xs, ys, x, y, q1, q2, ex, ey⟩ := hg
    obtain ⟨ws1, rv1, p1⟩ := q1.at_ I
    obtain ⟨ws2, rv2, p2⟩ := q2.at_ I
    have hh : X.A.in1.handled = none := I.ok.hd hc
    have n1 : i < ws1.toArray.size := by
      have := (List.getElem?_eq_some_iff.mp ex).1
      rw [List.size_toArray, ← rv1.length]; exact this
    have n2 : i < ws2.toArray.size := by
      have := (List.getElem?_eq_some_iff.mp ey).1
      rw [List.size_toArray, ← rv2.length]; exact this
    have zlt : z < s.heap.objs.size := Heap.lt_size gz
    refine wpAny_pyNext_zipD2_item (sep_B D) (draws_B hh t1 D.l1i1 ws1.toArray) (draws_B hh t2 D.l2i2 ws2.toArray) gz gI gO ⟨g1, p1⟩ ⟨g2, p2⟩ n1 n2 fun v1 v2 h' tk e1 e2 gz' gO' st1 st2 gT sz kp => ?_
    refine ⟨_, rfl, ?_⟩
    refine wpAny_letOwnedTupleGo_zip (s := { s with heap := h', toks := tk }) gz' fun h2 gz2 sb => ?_
    have r1 : RelV x v1 := by
      obtain ⟨v', hv, r⟩ := rv1.get ex
      have : some v' = some v1 := by rw [← hv, ← e1]; simp
      cases this
      exact r
    have r2 : RelV y v2 := by
      obtain ⟨v', hv, r⟩ := rv2.get ey
      have : some v' = some v2 := by rw [← hv, ← e2]; simp
      cases this
      exact r
    have gT2 : h2.get? s.heap.objs.size = some { cls := .type "tuple", data := .seq #[v1, v2] } := (sb.2 _ (Nat.ne_of_gt zlt)).trans gT
    have made : ObjOk X.prog X.w (upd H s.heap.objs.size (.tup [x, y])) h2 s.heap.objs.size (.tup [x, y]) := ⟨by show 2 ≤ sizeLine; decide, [v1, v2], .cons r1 (.cons r2 .nil), ⟨_, gT2, rfl, _, rfl⟩⟩
    have J : Inv X pins σ (upd H s.heap.objs.size (.tup [x, y])) { s with heap := h2, toks := tk } :=
      I.turnedNew (t' := tk) (ch := [z, TI, TO, i1, i2]) (fun c o nc q => (sb.2 c (fun e => nc (by simp [e]))).trans (kp c o (fun e => nc (by simp [e])) (fun e => nc (by simp [e])) (fun e => nc (by simp [e])) (fun e => nc (by simp [e])) q)) hf (Nat.le_refl _) made
    refine ⟨.ref s.heap.objs.size, _, J, rfl, ⟨_, x, y, rfl, I.hok.fresh (Nat.le_refl _), rfl, fun l hl => by rw [SqB.inj I hl q1]; exact ex, fun l hl => by rw [SqB.inj I hl q2]; exact ey⟩, ⟨⟨gz2, ?_, v1, v2, ?_⟩, ?_, ?_⟩, fun c hcm => ?_⟩
    · exact (sb.2 _ D.TIz).trans (kp _ _ D.TIz D.TITO D.TIi1 D.TIi2 gI)
    · exact (sb.2 _ D.TOz).trans gO'
    · exact st1.1.to fun o q => (sb.2 _ D.i1z).trans q
    · exact st2.1.to fun o q => (sb.2 _ D.i2z).trans q
    · have lt : c < s.heap.objs.size := by
        simp only [List.mem_cons, List.not_mem_nil, or_false] at hcm
        rcases hcm with e | e | e | e | e <;> subst e
        · exact zlt
        · exact Heap.lt_size gI
        · exact Heap.lt_size gO
        · obtain ⟨o, e, _⟩ := g1.live; exact Heap.lt_size e
        · obtain ⟨o, e, _⟩ := g2.live; exact Heap.lt_size e
      rw [upd_ne (Nat.ne_of_lt lt)]
      exact (hf c hcm).1
  done := by
    intro X eP ew eK hc i pins s σ H E I hf st hg
    subst eP ew eK
    obtain ⟨⟨gz, gI, u, v, gO⟩, g1, g2⟩ := st
    obtain ⟨xs, ys, q1, q2, hend⟩ := hg
    obtain ⟨ws1, rv1, p1⟩ := q1.at_ I
    obtain ⟨ws2, rv2, p2⟩ := q2.at_ I
    have hh : X.A.in1.handled = none := I.ok.hd hc
    have fin : ∀ h' tk, (∀ c o, c ≠ z → c ≠ TO → c ≠ i1 → c ≠ i2 → s.heap.get? c = some o → h'.get? c = some o) → (none : Option Value) = none ∧ Inv X pins σ H { s with heap := h', toks := tk } := fun h' tk kp =>
      ⟨rfl, I.turnedL (t' := tk) (ch := [z, TI, TO, i1, i2]) (fun c o nc q => kp c o (fun e => nc (by simp [e])) (fun e => nc (by simp [e])) (fun e => nc (by simp [e])) (fun e => nc (by simp [e])) q) hf⟩
    by_cases c1 : ws1.toArray[i]? = none
    · by_cases c2 : ws2.toArray[i]? = none
      · exact wpAny_pyNext_zipD2_end (sep_B D) (draws_E hh t1 ws1.toArray i c1) (draws_E hh t2 ws2.toArray i c2) gz gI gO ⟨rfl, g1, p1⟩ ⟨rfl, g2, p2⟩ (Nat.le_refl _) (Nat.le_refl _) (.inl rfl) fin
      · have l2 : i ≤ ws2.toArray.size := by
          rw [Array.getElem?_eq_none_iff] at c2; omega
        exact wpAny_pyNext_zipD2_end (sep_B D) (draws_E hh t1 ws1.toArray i c1) (draws_B hh t2 D.l2i2 ws2.toArray) gz gI gO ⟨rfl, g1, p1⟩ ⟨g2, p2⟩ (Nat.le_refl _) l2 (.inl rfl) fin
    · have l1 : i ≤ ws1.toArray.size := by
        rw [Array.getElem?_eq_none_iff] at c1; omega
      have c2 : ws2.toArray[i]? = none := by
        rw [Array.getElem?_eq_none_iff] at c1 ⊢
        rw [List.size_toArray, ← rv1.length] at c1
        rw [List.size_toArray, ← rv2.length]
        omega
      exact wpAny_pyNext_zipD2_end (sep_B D) (draws_B hh t1 D.l1i1 ws1.toArray) (draws_E hh t2 ws2.toArray i c2) gz gI gO ⟨g1, p1⟩ ⟨rfl, g2, p2⟩ l1 (Nat.le_refl _) (.inr rfl) fin
  self := fun A i s Q E st h => wpAny_pyIter_zip st.1.1 h
def iZipB (K : PySem.W.Frag) (ta : TA) : TI := fun σ H R => ta σ H fun vs H1 => ∃ t1 t2 a b xs ys, vs = [.ref a, .ref b] ∧ SqB t1 K H1 a xs ∧ SqB t2 K H1 b ys ∧ R (ItzB K t1 t2 a b) H1
theorem pi_zipB {X : Cx} {e e2 : Expr} {ta : TA} {p pos tpos : Pos} {elts : List Expr} {kk : Nat} (hg : Gl X "zip") (hm : X.mg "zip" = none) (ha : PA X [e, e2] ta)
    (hs : starEach [e, e2] X.env = (false, eval e X.env) :: starEach [e2] X.env := by rfl) (hpl : (backTo pos (starEach [e2] X.env)).any (·.1) = false := by rfl) :
    PI X (.Tuple elts kk tpos) (.Call (.Name "zip" p) [e, e2] [] pos) (iZipB X.K ta) := by
  refine ⟨fun pins s σ H R I h => Call_ (ld_blt I hg hm boot_zip ?_)⟩
  refine callWith_type1 (thn (ha.run pos pins s σ H _ I h) fun us s1 ⟨vs, H1, I1, r1, q⟩ => ?_) hs hpl
  obtain ⟨t1, t2, a, b, xs, ys, rfl, h1, h2, q⟩ := q
  cases r1 with
  | cons r rr =>
    cases rr with
    | cons r' rr =>
      cases rr
      cases r
      cases r'
      obtain ⟨ws1, rv1, p1⟩ := h1.at_ I1
      obtain ⟨ws2, rv2, p2⟩ := h2.at_ I1
      refine zip_begins2 (begins_B t1 a ws1.toArray) (begins_B t2 b ws2.toArray) p1 p2 fun h' gz gI gO g1 g2 sz kp => ?_
      refine wpAny_pyIter_zip gz ?_
      have I2 : Inv X pins σ H1 { s1 with heap := h' } := I1.kept (t' := s1.toks) kp
      refine ⟨s1.heap.objs.size + 4, [s1.heap.objs.size + 4, s1.heap.objs.size + 2, s1.heap.objs.size + 3, s1.heap.objs.size, s1.heap.objs.size + 1], _, _, H1, rfl, I2, turn_B t1 t2 (PySem.W.ktu_apart s1.heap.objs.size a b p1.lt p2.lt), ⟨⟨gz, gI, _, _, gO⟩, it_new g1, it_new g2⟩, fun c hcm => ?_, q⟩
      have hle : s1.heap.objs.size ≤ c := by
        simp only [List.mem_cons, List.not_mem_nil, or_false] at hcm
        rcases hcm with e | e | e | e | e <;> subst e <;> first | exact Nat.le_add_right _ _ | exact Nat.le_refl _
      exact I1.fpOk hle (I1.hok.fresh hle)
/-- what is zipped: lists and tuples -/
def sqD : PyData → Option (Bool × List PyData)
  | .list a => some (false, a)
  | .tuple a => some (true, a)
  | _ => none
theorem sqD_at {K : PySem.W.Frag} {mu : Addr → Prop} {H : Hp} {v : V} {d : PyData} {tb : Bool} {a : List PyData} (e : sqD d = some (tb, a)) (t : Dt K mu H v d) : ∃ (p : Addr) (xs : List V), v = .ref p ∧ SqB tb K H p xs ∧ DtAll K mu H xs a := by
  unfold sqD at e
  split at e
  · cases e
    obtain ⟨p, xs, rfl, h, k⟩ := t.list
    exact ⟨p, xs, rfl, h, k⟩
  · cases e
    obtain ⟨p, xs, rfl, h, k⟩ := t.tuple
    exact ⟨p, xs, rfl, h, k⟩
  · cases e
def itZB (f g : DE) : DF := fun s => (f s).bind fun p => (g p.2).bind fun q => (sqD p.1).bind fun a => (sqD q.1).map fun b => (List.zipWith (fun x y => .tuple [x, y]) a.2 b.2, q.2)
theorem yields_B {K : PySem.W.Frag} {mu : Addr → Prop} {H : Hp} {p q : Addr} {t1 t2 : Bool} {d1 d2 : PyData} {a b : List PyData} (e1 : sqD d1 = some (t1, a)) (e2 : sqD d2 = some (t2, b)) (t : Dt K mu H (.ref p) d1) (u : Dt K mu H (.ref q) d2) : YieldsG K mu H (ItzB K t1 t2 p q) (List.zipWith (fun x y => .tuple [x, y]) a b) := fun mu' H' k hm i => by
  obtain ⟨p', xs, w1, h1, h2⟩ := sqD_at e1 (t.mono k)
  obtain ⟨q', ys, w2, h3, h4⟩ := sqD_at e2 (u.mono k)
  cases w1
  cases w2
  rw [List.length_zipWith]
  refine ⟨fun hi => ?_, fun hi => ⟨xs, ys, h1, h3, by rw [h2.len, h4.len]; omega⟩⟩
  obtain ⟨x, c1, _⟩ := h2.get (List.getElem?_eq_getElem (show i < a.length by omega))
  obtain ⟨y, c2, _⟩ := h4.get (List.getElem?_eq_getElem (show i < b.length by omega))
  refine ⟨⟨xs, ys, x, y, h1, h3, c1, c2⟩, fun v H'' hy => ?_⟩
  obtain ⟨T, x, y, z1, z2, z3, z4, z5⟩ := hy
  exact yields_pair h2 h4 hm (by rw [List.length_zipWith]; exact hi) ⟨T, x, y, z1, z2, z3, z4 xs h1, z5 ys h3⟩
section
variable {X : Cx} {Z : Par} {a b : Expr} {elts : List Expr} {kk : Nat} {pos p tpos : Pos} {fa fb : DE}
theorem pizipB (hg : Gl X "zip") (hm : X.mg "zip" = none) (ha : PE X a (lft X.K Z fa)) (hb : PE X b (lft X.K Z fb)) (hs : starEach [a, b] X.env = (false, eval a X.env) :: starEach [b] X.env := by rfl) (hs2 : starEach [b] X.env = [(false, eval b X.env)] := by rfl) (hpl : (backTo pos (starEach [b] X.env)).any (·.1) = false := by rfl) :
    PI X (.Tuple elts kk tpos) (.Call (.Name "zip" p) [a, b] [] pos) (lfIG X.K Z (itZB fa fb)) := PIimp (pi_zipB hg hm (pa_cons ha (pa_cons hb pa_nil hs2) hs) hs hpl) fun σ H R h => by
  obtain ⟨M, s, ds, s', rl, hf, k⟩ := h
  unfold itZB at hf
  simp only [Option.bind_eq_some_iff, Option.map_eq_some_iff] at hf
  obtain ⟨⟨d1, s1⟩, h1, ⟨d2, s2⟩, h2, ⟨t1, a1⟩, h3, ⟨t2, a2⟩, h4, h5⟩ := hf
  cases h5
  refine ⟨M, s, _, s1, rl, h1, fun v H1 k1 r1 u1 => ⟨M, s1, _, s2, r1, h2, fun w H2 k2 r2 u2 => ?_⟩⟩
  have u1 := u1.mono k2.kp
  obtain ⟨q1, xs, rfl, g1, _⟩ := sqD_at h3 u1
  obtain ⟨q2, ys, rfl, g2, _⟩ := sqD_at h4 u2
  exact ⟨t1, t2, q1, q2, xs, ys, rfl, g1, g2, k _ H2 (k1.trans k2) r2 (yields_B h3 h4 u1 u2)⟩
end
end Dl

/-! ### what is caught is handed to a def, within the clause -/
namespace Dl
open PySem PySem.Spec PyProof.Rows L2
section
variable {X : Cx} {pins : List (Addr × Obj)} {σ : L2.St} {H : Hp} {s : Shared}
theorem Inv.warm (I : Inv X pins σ H s) (a : Addr) : Inv (X.suite a (X.pn ++ pins)) [] σ H s := ⟨I.ok.suite a (X.pn ++ pins), I.os, I.bare, I.base, I.loc, I.cell, I.free, I.freeC, fun p hp => I.pin p (by rw [List.append_nil] at hp; exact hp), I.hok, I.len⟩
theorem Inv.cool {a : Addr} (I : Inv (X.suite a (X.pn ++ pins)) [] σ H s) (ok : X.Ok) : Inv X pins σ H s := ⟨ok, I.os, I.bare, I.base, I.loc, I.cell, I.free, I.freeC, fun p hp => I.pin p (by rw [List.append_nil]; exact hp), I.hok, I.len⟩
end
/-- what is wished of an exception of a body whose clause looks at it -/
def wWarm (K : PySem.W.Frag) (c : Value) (i : Nat) (ts : TS) (D : Ends) : WX := fun cls d σ H =>
  ∃ C : Addr, cls = .ref C ∧ d = none ∧ PySem.W.exmOne K (.ref C) c = some true ∧ ∀ a, H a = none → ts { D with nx := fun σ1 H1 => D.nx (σ1.set i none) H1, bk := fun σ1 H1 => D.bk (σ1.set i none) H1, ct := fun σ1 H1 => D.ct (σ1.set i none) H1 } (σ.set i (some (.ref a))) (upd H a (ExZ C a))
section
variable {X : Cx} {x n : Str} {c : Value} {i : Nat} {body su : List Stmt} {b0 : Stmt} {np pos pos' : Pos} {tb : WX → TS} {ts : TS}
theorem ps_try_warm (hs : X.stack = X.env :: X.outer) (hf : X.env.frame = some X.env.locals) (hex : X.ex = []) (hN : X.N.Nodup) (hi : X.N[i]? = some n) (hln : X.env.kindOf n = some .local) (hc : Names X x c)
    (hb : ∀ (W : WX) (pn : List (Addr × Obj)) (xe : Value → Shared → Prop), Takes (X.tr pn xe) W → PassesOwn (model X.prog X.w) X.A X.env xe → PSs (X.tr pn xe) body (tb W))
    (hsu : ∀ (a : Addr) (pl : List (Addr × Obj)), PSs (X.suite a pl) (b0 :: su) ts) :
    PS X (.Try body [.ExceptHandler (some (.Name x np)) (some n) (b0 :: su) pos'] [] [] pos) (fun D σ H => tb (wWarm X.K c i ts D) D σ H) := by
  refine ⟨fun pins s σ H D I h => ?_⟩
  have frames : X.A.frames = some (X.env :: X.outer) := I.ok.frames.trans (by rw [hs])
  have okX := I.ok
  have go := (hb (wWarm X.K c i ts D) (X.pn ++ pins) (fun ev t1 => wpAny (model X.prog X.w) X.A (noteFrame ev X.env) (fun _ t2 => wpAny (model X.prog X.w) X.A (setFlight ev none) (fun _ t3 =>
    wpAny (model X.prog X.w) X.A (handleBy ev X.env [.ExceptHandler (some (.Name x np)) (some n) (b0 :: su) pos']) (SP X pins D) X.xe t3) X.xe t2) X.xe t1) (fun u t xx => ?_) PassesOwn.looking).run [] s σ H D (I.toTry _) h
  · refine wpAny_Try_except (wpAny_mono go (fun fl t done => ?_) fun _ _ z => z)
    cases fl with
    | next =>
      obtain ⟨σ1, H1, J, q⟩ := done
      exact wpAny_execs_nil ⟨σ1, H1, J.ofTry okX, q⟩
    | brk =>
      obtain ⟨σ1, H1, J, q⟩ := done
      exact ⟨σ1, H1, J.ofTry okX, q⟩
    | cont =>
      obtain ⟨σ1, H1, J, q⟩ := done
      exact ⟨σ1, H1, J.ofTry okX, q⟩
    | ret u =>
      obtain ⟨v, σ1, H1, J, r, q⟩ := done
      exact ⟨v, σ1, H1, J.ofTry okX, r, q⟩
  obtain ⟨a, B, tI, pl, σ1, H1, cls, dc, rfl, J0, inB, up, sky, na, os, bare, C, rfl, rfl, told, goal⟩ := xx
  have J : Inv X pins σ1 H1 tI := J0.ofTry okX
  have sky1 : Sky B (X.env :: X.outer) a (Zc (.ref C) none) X.env.locals t.heap := by rw [← hs]; exact sky
  show wpAny (model X.prog X.w) X.A (noteFrame (.ref a) X.env) _ _ _
  refine Sky.land Zc.steady frames hf sky1 fun h1 fly up1 => ?_
  have J1 : Inv X pins σ1 H1 { t with heap := h1 } := J.landed inB fly.1 (up.trans up1) os bare
  obtain ⟨o1, vs1, at1, z1, d1⟩ := fly.there
  have aFrame : a ∉ frs (X.env :: X.outer) := fun m => by
    obtain ⟨_, o2, at2, nof⟩ := fly.2.2.1.mem m
    rw [at1] at at2
    cases at2
    exact nof _ d1
  have aLoc : a ≠ X.env.locals := fun w => aFrame (List.mem_filterMap.mpr ⟨X.env, List.mem_cons_self, by rw [hf, w]⟩)
  have aFs : a ∉ X.fs := fun m => by
    obtain ⟨en, hen, q⟩ := List.mem_filterMap.mp m
    exact aFrame (List.mem_filterMap.mpr ⟨en, List.mem_cons_of_mem _ hen, q⟩)
  have ahead : tI.heap.get? a = none := by
    cases q : tI.heap.get? a with
    | none => rfl
    | some o =>
      have w := inB a o q (by show a ∉ frs X.stack; rw [hs]; exact aFrame)
      rw [fly.2.1] at w
      cases w
  have young : X.s_0.heap.get? a = none := by
    cases q : X.s_0.heap.get? a with
    | none => rfl
    | some o =>
      obtain ⟨o', w⟩ := J.base.there a o q (by rw [hex]; exact List.not_mem_nil)
      rw [ahead] at w
      cases w
  have otherPins : ∀ p ∈ X.pn ++ pins, p.1 ≠ a := fun p hp w => by
    have q := (J.pin p hp).1
    rw [w, ahead] at q
    cases q
  refine wpAny_handleBy_cons (codeAny_handlers_test ?_) (by intro q; cases q)
  have ty : PySem.W.Looks (model X.prog X.w) h1 (typeOf (.ref a)) (.ref C) := fun _ _ _ _ k q => wpAny_typeOf_ref (k _ _ at1) (by rw [z1.1]; exact q)
  have matched := PySem.W.exm_one (M := model X.prog X.w) J1.kIn ty told
  have inSuite := J1.suite at1 d1 na aLoc aFs
  have named : ∀ {Q : Value → Shared → Prop} {F : Value → Shared → Prop}, Q c { t with heap := h1 } → wpAny (model X.prog X.w) (X.A.mark (some (.ref a))) (eval (.Name x np) X.env) Q F { t with heap := h1 } := fun {Q F} q => by
    obtain ⟨g1, g2, g3 | ⟨g3, g4, g5⟩⟩ := hc
    · exact ld_glob (X := X.suite a ((a, o1) :: (X.pn ++ pins))) inSuite g1 g3 q g2
    · exact ld_blt (X := X.suite a ((a, o1) :: (X.pn ++ pins))) inSuite g1 g3 g4 q g5 g2
  refine named (matched.here (codeAny_handlers_suite_as ?_))
  refine HandSPX.lands_againZ fly fun h2 fly2 up2 => ?_
  have J2 : Inv X pins σ1 H1 { t with heap := h2 } := J.landed inB fly2.1 ((up.trans up1).trans up2) os bare
  obtain ⟨o2, vs2, at2, z2, d2⟩ := fly2.there
  have inSuite2 := J2.suite at2 d2 na aLoc aFs
  refine store_ok (X := X.suite a ((a, o2) :: (X.pn ++ pins))) (v := .ref a) inSuite2 hN hi (.inl hln) rfl (fun t3 S3 => ?_) (.inr hln)
  have at3 : t3.heap.get? a = some o2 := (S3.pin (a, o2) (List.mem_append_left _ List.mem_cons_self)).1
  have J3 : Inv X pins (σ1.set i (some (.ref a))) H1 t3 := S3.unsuite okX
  have W4 := Dl.Inv.warm (Dl.Inv.notes J3 at3 z2 d2 na young aLoc otherPins) a
  refine wpAny_mono ((hsu a (X.pn ++ pins)).run [] t3 _ _ _ W4 (goal a na)) (fun fl t4 done => ?_) fun _ _ z => z.elim
  cases fl with
  | next =>
    obtain ⟨σ4, H4, S4, q⟩ := done
    exact gone_ok (Dl.Inv.cool S4 okX) hN hi hln fun t5 J5 => ⟨_, _, J5, q⟩
  | brk =>
    obtain ⟨σ4, H4, S4, q⟩ := done
    exact gone_ok (Dl.Inv.cool S4 okX) hN hi hln fun t5 J5 => ⟨_, _, J5, q⟩
  | cont =>
    obtain ⟨σ4, H4, S4, q⟩ := done
    exact gone_ok (Dl.Inv.cool S4 okX) hN hi hln fun t5 J5 => ⟨_, _, J5, q⟩
  | ret u =>
    obtain ⟨v, σ4, H4, S4, r, q⟩ := done
    exact gone_ok (Dl.Inv.cool S4 okX) hN hi hln fun t5 J5 => ⟨v, _, _, J5, r, q⟩
end
/-- try: f, except AskError as the name at i: g -/
def sTryW (nm : List Str) (i : Nat) (f : DSx) (g : DS) : DS := fun s => (f s).bind fun r => match r with
  | .fl fl => some fl
  | .ex c s1 => if c ∈ nm then (g (s1.set i (.dat (excD c)))).bind fun fl => match fl with
    | .rt d s2 => some (.rt d s2)
    | .nx s2 => if notOwn s2[i]? = true then some (.nx (s2.set i .no)) else none
    | _ => none else none
section
variable {X : Cx} {Z : Par} {n : Str} {i : Nat} {body su : List Stmt} {b0 : Stmt} {np pos pos' : Pos} {f : DSx} {g : DS} {nm ts : List Str}
theorem stryw (Fx : ExF X.K X.mg nm ts) (hn : Nmd X.K X.mg nm) (hN : X.N.Nodup) (hi : X.N[i]? = some n) (hln : X.env.kindOf n = some .local) (gz : Gl X "AskError")
    (hb : ∀ (W : WX) (pn : List (Addr × Obj)) (xe : Value → Shared → Prop), Takes (X.tr pn xe) W → PassesOwn (model X.prog X.w) X.A X.env xe → PSs (X.tr pn xe) body (lfSx X.K X.mg Z W f))
    (hsu : ∀ (a : Addr) (pl : List (Addr × Obj)), PSs (X.suite a pl) (b0 :: su) (lfS X.K Z g)) (hs : X.stack = X.env :: X.outer := by rfl) (hf : X.env.frame = some X.env.locals := by rfl) (hex : X.ex = [] := by rfl) :
    PS X (.Try body [.ExceptHandler (some (.Name "AskError" np)) (some n) (b0 :: su) pos'] [] [] pos) (lfS X.K Z (sTryW nm i f g)) :=
  PSimp (ps_try_warm (c := .ref (He.ga X.K "AskError")) hs hf hex hN hi hln ⟨gz, by decide, .inl (Fx.at_ _ List.mem_cons_self)⟩ hb hsu) fun D σ H h => by
    obtain ⟨M, s, fl, rl, hf, k⟩ := h
    unfold sTryW at hf
    simp only [Option.bind_eq_some_iff] at hf
    obtain ⟨r, h1, h2⟩ := hf
    refine ⟨M, s, r, rl, h1, ?_⟩
    cases r with
    | fl fl1 => cases h2; exact k
    | ex c s1 =>
      dsimp only at h2
      split at h2
      case isFalse => cases h2
      rename_i hc
      simp only [Option.bind_eq_some_iff] at h2
      obtain ⟨fl2, h3, h4⟩ := h2
      intro C M1 σ1 H1 hm k1 r1
      have e := hn c hc
      rw [hm] at e
      cases e
      refine ⟨_, rfl, rfl, Fx.top c hc, fun a na => ?_⟩
      have g1 : ∀ b o, H1 b = some o → upd H1 a (ExZ (He.ga X.K c) a) b = some o := grow_new na
      have fresh : ¬ Mu Z M1 a := fun q => by
        obtain ⟨o, e⟩ := r1.muT a q
        rw [na] at e
        cases e
      obtain ⟨M2, _, r3, k3⟩ := (r1.grow g1).setDat (v := .ref a) (d := excD c) (.exc upd_same fresh) i
      refine ⟨M2, _, fl2, r3, h3, ?_⟩
      have kk : Kq Z M H M2 (upd H1 a (ExZ (He.ga X.K c) a)) := k1.trans ((kq_grow g1).trans k3)
      cases fl2 with
      | rt d s2 =>
        cases h4
        exact fun M4 σ4 H4 v k4 r4 t4 => k M4 σ4 H4 v (kk.trans k4) r4 t4
      | nx s2 =>
        dsimp only at h4
        split at h4
        case isFalse => cases h4
        rename_i no
        cases h4
        exact fun M4 σ4 H4 k4 r4 => k M4 (σ4.set i none) H4 (kk.trans k4) (r4.withSl (r4.sl.forget i (notOwn_ne no)))
      | bk s2 => cases h4
      | ct s2 => cases h4
end
/-! ### two lists one behind the other: a list of its own -/
def fCat (fa fb : DE) : DF := fun s => (fa s).bind fun p => (fb p.2).bind fun q => match p.1, q.1 with
  | .list a, .list b => if a.length + b.length ≤ sizeLine then some (a ++ b, q.2) else none
  | _, _ => none
theorem fcat {X : Cx} {Z : Par} {a b : Expr} {pos : Pos} {fa fb : DE} (ha : PE X a (lft X.K Z fa)) (hb : PE X b (lft X.K Z fb)) : PE X (.BinOp a .Add b pos) (lfF X.K Z (fCat fa fb)) := PEimp (pe_op op_catR ha hb) fun σ H Q h => by
  obtain ⟨M, s, ds, s', rl, hf, k⟩ := h
  unfold fCat at hf
  simp only [Option.bind_eq_some_iff] at hf
  obtain ⟨⟨d1, s1⟩, h1, ⟨d2, s2⟩, h2, h3⟩ := hf
  dsimp only at h2 h3
  split at h3
  case h_2 => cases h3
  rename_i xs ys _ _
  split at h3
  case isFalse => cases h3
  rename_i few
  cases h3
  refine ⟨M, s, _, s1, rl, h1, fun v H1 k1 r1 t1 => ⟨M, s1, _, _, r1, h2, fun w H2 k2 r2 t2 => ?_⟩⟩
  have t1 := t1.mono k2.kp
  obtain ⟨a, vs, ea, g1, u1⟩ := t1.listR
  obtain ⟨b, ws, eb, g2, u2⟩ := t2.listR
  subst ea eb
  refine ⟨a, b, vs, ws, rfl, rfl, g1, g2, by rw [u1.len, u2.len]; exact few, fun p hp => ?_⟩
  have kk := k1.trans k2
  have hp0 : H p = none := by
    cases q : H p with
    | none => rfl
    | some o =>
      by_cases m : Mu Z M p
      · obtain ⟨u, e⟩ := r2.muT p m
        rw [hp] at e; cases e
      · have := (kk.kp p o q m).1
        rw [hp] at this; cases this
  exact k p _ _ hp0 upd_same (kk.trans (kq_grow (grow_new hp))) (r2.addNew hp _) ((u1.append u2).mono (kp_addNew hp _))
theorem warmR {k : Nat} {A : Around} {h : Option Value} (hr : Room k A) : L2H.RoomH k (A.mark h) := ⟨hr.dp, hr.un⟩
theorem huW {k : Nat} {A : Around} (r : L2H.RoomH k A) : A.units + 1 < cLine := by have := r.un; omega
theorem _root_.L2H.RoomH.units {k : Nat} {A : Around} (r : L2H.RoomH k A) : A.units + 64 < cLine := by have := r.un; omega
/-! ### a def that runs wherever it is called: nothing goes round in it, nothing raises -/
structure FnW (P : Program) (w : World) (K : PySem.W.Frag) (mg : Str → Option Value) (base : Heap) (k : Nat) (f : Addr) (fd : FuncData) (ps : List Str) (sp : Sp) : Prop where
  len : ∀ vs H Q E, sp vs H Q E → vs.length = ps.length
  run : ∀ (A : Around) (outer : List Env) (s : Shared) (H : Hp) (args : Args) (us : List Value) (vs : List V) (Q : VK), L2H.RoomH k A → Env0 P w K mg base A outer s H → BindsTo s fd args (ps.zip us) → Vals vs us → sp vs H Q C8.E0 → codeAny (model P w) A (.call (.ref f) args) (CR C8.CX0 outer P w H s Q C8.E0) s
abbrev cxV (P : Program) (w : World) (K : PySem.W.Frag) (mg : Str → Option Value) (base : Heap) (N : List Str) (x : Str) (sc : Scope) (f : Addr) (cdv : Value) (A : Around) (outer : List Env) (s : Shared) (H : Hp) : Cx := { (cxOf C8.CX0 P w K mg base N x sc f cdv A outer s H C8.E0).nox with calm := false }
def CalW (P : Program) (w : World) (K : PySem.W.Frag) (mg : Str → Option Value) (base : Heap) (k : Nat) (x : Str) (ps : List Str) (sp : Sp) : Prop := ∃ (f : Addr) (fd : FuncData), FnW P w K mg base k f fd ps sp ∧ mg x = some (.ref f) ∧ PySem.W.keepIn K (.ref f) = true ∧ Binds K fd ps []
section
variable {P : Program} {w : World} {K : PySem.W.Frag} {mg : Str → Option Value} {base : Heap}
theorem calW {x : Str} {st : Stmt} {N ps : List Str} {k : Nat} {b : DS} (F : Std K mg x st ps) (S : FnScope N ps (defScope st))
    (hb : ∀ (f : Addr) (cdv : Value) (A : Around) (outer : List Env) (s : Shared) (H : Hp) (Z : Par), L2H.RoomH k (A.deeper (envOfC x (defScope st) s.heap.objs.size f cdv)) → PSs (cxV P w K mg base N x (defScope st) f cdv A outer s H) (defBody st) (lfS K Z b)) :
    CalW P w K mg base (k + 1) x ps (spP K (fnP N ps.length b)) := by
  obtain ⟨f, fd, F, hm, hb2⟩ := F
  have kp := F.kp
  obtain ⟨⟨oc, od, kV, doc, pm, an, cdv, ct, osl, e1, lk, hcdv⟩, _⟩ := F
  subst e1
  refine ⟨f, _, ⟨fun vs H Q E h => ?_, fun A outer s H args us vs Q hr e0 hbt r h => ?_⟩, hm, kp, hb2⟩
  · obtain ⟨mu, ds, d, h1, h2, h3, h4⟩ := h
    unfold fnP at h3
    split at h3
    · rename_i hl
      rw [h2.len]; exact hl
    · cases h3
  · obtain ⟨mu, ds, d, h1, h2, h3, h4⟩ := h
    unfold fnP at h3
    split at h3
    case isFalse => cases h3
    rename_i hl
    let Z : Par := ⟨H, [], mu, .nil⟩
    have muE : ∀ a, Mu Z [] a → mu a := fun a q => by
      rcases q with q | q | q
      · exact q
      · cases q
      · cases q
    have rl : Rel K Z [] (L2.start N vs) H (startS N ds) := by
      refine ⟨fun a o e _ => e, fun a ha => (by cases ha), h1, fun a ha => (by cases ha), ?_⟩
      unfold startS L2.start
      rw [h2.len]
      exact slAll_start _ (h2.mono fun a o e n => ⟨e, fun z => n (muE a z)⟩)
    have ready : lfS K Z b { nx := fun _ H1 => Q .non H1, rt := Q } (L2.start N vs) H := by
      unfold outP at h3
      split at h3
      · rename_i d1 s1 hq
        cases h3
        exact ⟨_, _, _, rl, hq, fun M σ H1 v k1 r1 t1 => h4 v H1 (fun a o e => r1.base a o e (fun z => by cases z)) (t1.mono fun a o e n => ⟨e, fun z => n (.inl z)⟩)⟩
      · rename_i s1 hq
        cases h3
        exact ⟨_, _, _, rl, hq, fun M σ H1 k1 r1 => h4 _ H1 (fun a o e => r1.base a o e (fun z => by cases z)) .non⟩
      · cases h3
    have KX : K.In s.heap := e0.mod.kin.keeps fun b o e => (e0.bs b o e).1
    have noLim : s.heap.NoLimit := e0.mod.nolimit.keeps fun b o e => (e0.bs b o e).1
    have slots : ∀ y ∈ ps.zip us, (defScope st).names.lookup y.1 = some .local ∨ ((defScope st).names.lookup y.1 = some .cell ∧ ((cellsFrom (s.heap.objs.size + 1) (defScope st).names []).lookup y.1).isSome = true) := fun y hy =>
      (S.par y.1 (List.of_mem_zip (a := y.1) (b := y.2) hy).1).imp id fun z => ⟨z, PySem.W.cellsFrom_some _ _ _ (.inl z)⟩
    have lv : vs.length = ps.length := by rw [h2.len]; exact hl
    refine codeAny_call_function hr.depth (KX _ _ lk) rfl S.co S.gen rfl (PySem.W.codeRec_of KX hcdv) (hbt _ _ _ _ (wpAny_newFunctionEnv_cells S.kind slots fun env he t0 io => ?_))
    cases he
    refine ⟨noLim.keeps io.toInCall.keep, codeAny_func ?_⟩
    have e00 : Env0 P w K mg base { A with handled := none } outer s H := ⟨e0.frames, e0.mod, e0.bs, e0.bsz, e0.funs, e0.frf, e0.hok, e0.bare⟩
    have I0 : Inv (cxOf C8.CX0 P w K mg base N x (defScope st) f cdv { A with handled := none } outer s H C8.E0) [] (L2.start N vs) H t0 := inv_start S rfl e00 lv r io
    have ok0 := I0.ok
    have I1 : Inv (cxV P w K mg base N x (defScope st) f cdv A outer s H) [] (L2.start N vs) H t0 :=
      ⟨⟨ok0.mod, ok0.kind, ok0.glob, ok0.blt, ok0.above, ok0.inj, ok0.has, ok0.cab, (fun z => Bool.noConfusion (show false = true from z)), Around.frames_deeper e0.frames, ok0.stk, ok0.exf, ok0.bs, ok0.bsz, ok0.noex, ok0.exfs, ok0.funs, ok0.frf⟩, I0.os, I0.bare, I0.base, I0.loc, I0.cell, I0.free, I0.freeC, I0.pin, I0.hok, I0.len⟩
    refine wpAny_mono ((hb f cdv A outer s H Z (hr.deeper _)).run [] t0 _ H _ I1 ready) (fun fl t1 done => ?_) fun _ _ z => z.elim
    match fl, done with
    | .ret u, ⟨v, σ', H', J, rv, q⟩ => exact ⟨v, H', J.os, J.bare, J.base, J.hok, rv, q⟩
    | .next, ⟨σ', H', J, q⟩ => exact ⟨.non, H', J.os, J.bare, J.base, J.hok, rfl, q⟩
    | .brk, ⟨_, _, _, z⟩ => exact z.elim
    | .cont, ⟨_, _, _, z⟩ => exact z.elim
end
section
variable {X : Cx} {Z : Par} {e : Expr} {es : List Expr} {pos p : Pos} {ga : DA} {k j : Nat} {ps : List Str} {x : Str}
theorem dclW {m : List PyData → Option PyData} (c : CalW X.prog X.w X.K X.mg X.base j x ps (spP X.K m)) (hr : L2H.RoomH k X.A) (hj : j ≤ k) (hg : Gl X x) (ha : PA X (e :: es) (lfA X.K Z ga))
    (hdb : (x == ("__debug__" : Str)) = false := by decide) (he : starEach (e :: es) X.env = (false, eval e X.env) :: starEach es X.env := by rfl) (hpl : (backTo pos (starEach es X.env)).any (·.1) = false := by rfl) :
    PE X (.Call (.Name x p) (e :: es) [] pos) (lft X.K Z (dCall m ga)) := by
  obtain ⟨f, fd, F, hm, hk, hb⟩ := c
  refine ⟨fun pins s σ H Q I h => ?_⟩
  have h := lift_call (E := C8.E0) h
  refine wpAny_Call_Name_kw (ld_glob I hg hm ?_ hdb)
  refine PySem.W.callWith_K (h₀ := X.base) I.ok.mod.kin hk (thn (ha.run pos pins s σ H _ I h) fun us s1 ⟨vs, H1, I1, r, q⟩ => ⟨I1.kIn, ?_⟩) he hpl
  have q : spP X.K m vs H1 Q C8.E0 := by
    dsimp only at q
    rw [List.append_nil] at q
    exact q
  have l : us.length = ps.length := by rw [← r.length]; exact F.len _ _ _ _ q
  have bt := hb s1 us I1.kIn (by rw [List.append_nil]; exact l)
  rw [List.append_nil] at bt
  show wpAny _ _ (call (.ref f) us) _ _ _
  refine wpAny_call (codeAny_mono (F.run X.A X.stack s1 H1 ⟨us, []⟩ us vs Q (hr.mono hj) I1.env0 bt r q) fun res t2 hq => ?_)
  match res, hq with
  | .ok (.ret u), hq => exact I1.after hq
  | .ok .next, z => exact z.elim
  | .ok .brk, z => exact z.elim
  | .ok .cont, z => exact z.elim
  | .error _, z => exact (show False from z).elim
end
end Dl

/-! the law walked, the hidden place the table of another def's code object -/
namespace Dl
open PySem PySem.Spec PyProof.Rows L2
section
variable {P : Program} {w : World} {K : PySem.W.Frag} {mg mb : Str → Option Value}
theorem law_hereN {x p q : Str} {st : Stmt} {fa a c0 c T : Addr} {fd : FuncData} {N : List Str} {k : Nat} {b : DS} {s₁ : Shared} {vs : List Value} {ns : List Int}
    (KX : K.In s₁.heap) (hns : s₁.heap.Ns mainGlobals mg) (hbl : s₁.heap.Ns builtinsNs mb) (hbb : ∀ y : Str, y ≠ "__name__" → mb y = bootBuiltins y) (hlim : s₁.heap.NoLimit) (hmo : ∃ mm, s₁.heap.Ns sysModules mm) (hg : s₁.gens = #[])
    (ha : s₁.heap.get? a = some { cls := .type "list", data := .seq vs.toArray }) (hi : IntsAre vs ns) (few : ns.length ≤ sizeLine) (room : Room (k + 1) callerA) (F : Fun K x x st fa fd) (S : FnScope N [p] (defScope st)) (bt : ∀ (s : Shared) (u : Value), BindsTo s fd ⟨[u], []⟩ [(p, u)])
    (hT : s₁.heap.get? T = some { cls := .none, data := .fields #[] }) (nT : K.lookup T = none) (C : PySem.W.CodeHd s₁.heap c T) (hcd : fd.code = .ref c0)
    (hbm : ∃ (bm : Addr) (ob : Obj), mg "__builtins__" = some (.ref bm) ∧ bm ≠ builtinsNs ∧ s₁.heap.get? bm = some ob ∧ ob.cls = .type "module" ∧ ob.dict = some builtinsNs ∧ ob.data = .plain) (len2 : 2 ≤ N.length)
    (body : ∀ (base : Heap) (s : Shared) (H : Hp) (Z : Par), Mod K mg base → Room k (callerA.deeper (envOfC x (defScope st) s.heap.objs.size fa (.ref c0))) → CG (cxOf CX0 P w K mg base N x (defScope st) fa (.ref c0) callerA [] s H E0).nox → LamX.TabB base mg c T → Z.p[0]? = some T →
      PSs (cxOf CX0 P w K mg base N x (defScope st) fa (.ref c0) callerA [] s H E0).nox (defBody st) (lfS K Z b))
    (true_ : fnT N q 1 b [.dict [(.none, .list (ns.map .int))]] = some (.bool true)) :
    codeAny (model P w) callerA (.call (.ref fa) ⟨[.ref a], []⟩) (fun r s' => r = .ok (.ret (.bool true)) ∧ OldK s₁.heap s'.heap ∧ s'.os = s₁.os ∧ AllBare s'.gens) s₁ := by
  obtain ⟨G, gok, hG, here⟩ := script_in (P := P) (w := w) KX ha hi few
  have aT : T ≠ a := fun e => by
    rw [e, ha] at hT
    cases hT
  have gT : G T = none := by
    cases z : G T with
    | none => rfl
    | some u => exact absurd (hG T u z).1 aT
  let H : Hp := upd G T (.tbl #[])
  have atT : H T = some (.tbl #[]) := upd_same
  have elseT : ∀ b, b ≠ T → H b = G b := fun b h => upd_ne h
  have fromG : ∀ b u, G b = some u → H b = some u := grow_new gT
  have hH : ∀ b u, H b = some u → b = T ∧ u = .tbl #[] ∨ (b = a ∧ K.lookup a = none ∧ ∃ o u', u = .frz o u') := fun b u z => by
    by_cases e : b = T
    · subst e
      rw [atT] at z
      cases z
      exact .inl ⟨rfl, rfl⟩
    · rw [elseT b e] at z
      obtain ⟨rfl, h2⟩ := hG b u z
      exact .inr ⟨rfl, h2⟩
  have hok : HOk P w H s₁.heap := fun b u z => by
    rcases hH b u z with ⟨rfl, rfl⟩ | ⟨rfl, _, o, u', rfl⟩
    · exact hT
    · rw [elseT b (fun e => aT e.symm)] at z
      exact (gok b _ z).stay (fun _ _ _ r => r) (fun c r => fromG _ _ r) fun c xs r => fromG _ _ r
  have free_of : ∀ {b : Addr} {o : Obj}, s₁.heap.get? b = some o → (∀ vs n, o.data ≠ .seq vs n) → o.data ≠ .fields #[] → H b = none := fun {b o} e h1 h2 => by
    cases z : H b with
    | none => rfl
    | some u =>
      rcases hH b u z with ⟨rfl, _⟩ | ⟨rfl, _⟩
      · rw [hT] at e
        cases e
        exact absurd rfl h2
      · rw [ha] at e
        cases e
        exact absurd rfl (h1 _ _)
  have dict_free : ∀ {b : Addr} {o : Obj} {es : Array DictEntry} {n : Nat}, s₁.heap.get? b = some o → o.data = .dict es n → H b = none := fun {b o es n} e d => free_of e (fun _ _ z => by rw [d] at z; cases z) (fun z => by rw [d] at z; cases z)
  have ns_in : ∀ {b : Addr} {m : Str → Option Value}, s₁.heap.Ns b m → (hidT s₁.heap H).Ns b m := fun ⟨o, es, n, e, d, r⟩ => ⟨o, es, n, hidT_get e (dict_free e d), d, r⟩
  have mod : Mod K mg (hidT s₁.heap H) := {
    kin := fun b o e => hidT_get (KX b o e) (by
      cases z : H b with
      | none => rfl
      | some u =>
        rcases hH b u z with ⟨rfl, _⟩ | ⟨rfl, q, _⟩
        · rw [nT] at e; cases e
        · rw [q] at e; cases e)
    glob := ns_in hns
    blt := ⟨mb, ns_in hbl, hbb⟩
    nolimit := let ⟨mc, q1, q2⟩ := hlim; ⟨mc, ns_in q1, q2⟩ }
  have TB : LamX.TabB (hidT s₁.heap H) mg c T := by
    refine ⟨?_, ?_, fun z => ?_⟩
    · obtain ⟨o, us, file, tf, flags, tg, inF, text, tt, e1, r1, r2, r3, r4, r5, r6, r7, r8, hne⟩ := C
      refine ⟨o, us, file, tf, flags, tg, inF, text, tt, hidT_get e1 (free_of e1 (fun vs n z => ?_) fun z => ?_), r1, r2, r3, r4, r5, r6, r7, r8, hne⟩
      · rw [r2] at z; cases z
      · rw [r2] at z
        cases z
        simp at r3
    · obtain ⟨bm, ob, b1, b2, b3, b4, b5, b6⟩ := hbm
      refine ⟨bm, ob, b1, b2, fun e => ?_, fun e => ?_, hidT_get b3 (free_of b3 (fun vs n z => ?_) fun z => ?_), b4, b5, b6⟩
      · obtain ⟨o, es, n, e3, d, _⟩ := hns
        rw [e, e3] at b3
        cases b3
        rw [d] at b6
        cases b6
      · rw [e, hT] at b3
        cases b3
        cases b6
      · rw [b6] at z; cases z
      · rw [b6] at z; cases z
    · obtain ⟨o, es, n, e, d, _⟩ := hns
      rw [z, hT] at e
      cases e
      cases d
  have e0 : Env0 P w K mg (hidT s₁.heap H) callerA [] s₁ H := ⟨rfl, mod, fun _ _ e => of_hidT e, by rw [hidT_size]; exact Nat.le_refl _, trivial, fun c hc => (by cases hc), hok, .of_eq hg⟩
  have sys : ∃ o es n, (hidT s₁.heap H).get? sysModules = some o ∧ o.data = .dict es n := by
    obtain ⟨mm, o, es, n, e, d, _⟩ := hmo
    exact ⟨o, es, n, hidT_get e (dict_free e d), d⟩
  let Z : Par := ⟨H, [T], fun _ => False, by simp⟩
  have only : ∀ b, Mu Z [] b → b = T := fun b z => by
    rcases z with z | z | z
    · exact z.elim
    · exact ((List.mem_singleton.mp z).symm).symm
    · cases z
  have td : Dt K (Mu Z []) H (.ref a) (.dict [(.none, .list (ns.map .int))]) := .scr (here.imp (fun z => ⟨z.imp (fun z => fromG _ _ z) fun ⟨o, z⟩ => ⟨o, fromG _ _ z⟩, fun z => aT (only a z).symm⟩) id) (dtAll_ints ns)
  have rel : Rel K Z [] (L2.start N [.ref a]) H (startT N q [.dict [(.none, .list (ns.map .int))]]) := by
    refine ⟨fun _ _ e _ => e, fun _ z => (by cases z), fun _ z => z.elim, fun b z => ⟨_, ((List.mem_singleton.mp z).symm) ▸ atT⟩, ?_⟩
    obtain ⟨n, hn⟩ : ∃ n, N.length = n + 2 := ⟨N.length - 2, by omega⟩
    have e1 : L2.start N [.ref a] = some (.ref a) :: List.replicate (n + 1) none := by
      unfold L2.start
      rw [List.length_singleton, hn]
      rfl
    have e2 : startT N q [.dict [(.none, .list (ns.map .int))]] = .dat (.dict [(.none, .list (ns.map .int))]) :: (List.replicate n .no ++ [.tab 0 q]) := by
      unfold startT
      rw [List.length_singleton, hn]
      rfl
    rw [e1, e2]
    exact .dat td (slAll_tab atT n)
  have ready : lfS K Z b { nx := fun _ H' => False, rt := fun v _ => v = .bl true } (L2.start N [.ref a]) H := by
    have tr : outP (b (startT N q [.dict [(.none, .list (ns.map .int))]])) = some (.bool true) := by
      unfold fnT at true_
      rw [if_pos (show [PyData.dict [(PyData.none, PyData.list (ns.map PyData.int))]].length = 1 from rfl)] at true_
      exact true_
    clear true_
    unfold outP at tr
    split at tr
    · rename_i d1 s1 hq
      cases tr
      exact ⟨_, _, _, rel, hq, fun M σ H1 v k1 r1 t1 => t1.bool⟩
    · cases tr
    · cases tr
  obtain ⟨⟨oc, od, kV, doc, pm, an, cdv, ct, osl, e1, lk, hcdv⟩, kp⟩ := F
  subst e1
  have ecd : cdv = .ref c0 := hcd
  subst ecd
  have slots : ∀ y ∈ [(p, Value.ref a)], (defScope st).names.lookup y.1 = some .local ∨ ((defScope st).names.lookup y.1 = some .cell ∧ ((cellsFrom (s₁.heap.objs.size + 1) (defScope st).names []).lookup y.1).isSome = true) := fun y hy => by
    obtain rfl := List.mem_singleton.mp hy
    exact (S.par p (List.mem_singleton.mpr rfl)).imp id fun z => ⟨z, PySem.W.cellsFrom_some _ _ _ (.inl z)⟩
  have ran : codeAny (model P w) callerA (.call (.ref fa) ⟨[.ref a], []⟩) (CR CX0 [] P w H s₁ (fun v _ => v = .bl true) E0) s₁ := by
    refine codeAny_call_function room.depth (KX _ _ lk) rfl S.co S.gen rfl (PySem.W.codeRec_of KX hcdv) (bt s₁ (.ref a) _ _ _ _ (wpAny_newFunctionEnv_cells S.kind slots fun env he t0 io => ?_))
    cases he
    refine ⟨hlim.keeps io.toInCall.keep, codeAny_func ?_⟩
    have begun : Inv (cxOf CX0 P w K mg (hidT s₁.heap H) N x (defScope st) fa (.ref c0) callerA [] s₁ H E0) [] (L2.start N [.ref a]) H t0 := inv_start S room.hd e0 rfl (.cons rfl .nil) io
    refine wpAny_mono ((body _ s₁ H Z mod (room.deeper _) ⟨rfl, by show 4 + 3 + 100 < 9900; omega, sys⟩ TB rfl).nox.run [] t0 _ H _ begun ready) (fun fl t1 done => ?_) fun _ _ z => z
    match fl, done with
    | .ret u, ⟨v, σ', H', J, rv, q⟩ => exact ⟨v, H', J.os, J.bare, J.base, J.hok, rv, q⟩
    | .next, ⟨_, _, _, z⟩ => exact z.elim
    | .brk, ⟨_, _, _, z⟩ => exact z.elim
    | .cont, ⟨_, _, _, z⟩ => exact z.elim
  refine codeAny_mono ran fun r t1 done => ?_
  match r, done with
  | .ok (.ret u), ⟨v, H', os, bare, un, ok', rv, q⟩ =>
    subst q
    obtain rfl : u = .bool true := rv
    obtain ⟨more, hm⟩ := un.tbls T #[] atT
    rw [Array.empty_append] at hm
    have grown : t1.heap.get? T = some { cls := .none, data := .fields more } := ok' T _ hm
    have same : ∀ b o, b ≠ T → s₁.heap.get? b = some o → t1.heap.get? b = some o := fun b o nb e => by
      cases z : H b with
      | none => exact un.keep b o e z (by simp [frs]) List.not_mem_nil
      | some u =>
        rcases hH b u z with ⟨rfl, _⟩ | ⟨rfl, _, o', u', rfl⟩
        · exact absurd rfl nb
        · have now := (ok' b _ (un.frzs b o' u' z)).1
          have was := (hok b _ z).1
          rw [was] at e
          cases e
          exact now
    refine ⟨rfl, ⟨fun b o e => ?_, fun b o e => ?_⟩, os, bare⟩
    · by_cases hb : b = T
      · subst hb
        rw [hT] at e
        cases e
        exact .inr (.inl ⟨(C.tab hT).isCodeTable, rfl, #[], more, rfl, by rw [Array.empty_append]; exact grown⟩)
      · exact .inl (same b o hb e)
    · by_cases hb : b = T
      · exact ⟨_, by rw [hb]; exact grown⟩
      · exact ⟨o, same b o hb e⟩
  | .ok .next, z => exact z.elim
  | .ok .brk, z => exact z.elim
  | .ok .cont, z => exact z.elim
  | .error e, z => exact (show False from z).elim
end
/-- what the head looks at: constants, classes, built-in names of modules -/
def exBn (cs : List (Str × PyData)) (bs : List (Str × String)) (nm ts : List Str) (K : PySem.W.Frag) : Bool := exB cs nm ts K && bs.all (bnB K)
theorem walk_dataN (dd : He.Defn) {l : PySem.W.OpenLaw} {n k : Nat} {q : Program} {loose : List Str} {XP : (Str → Option Value) → Heap → Prop} {d : DefRec} {fa : List He.Fa} {fn : List He.DefD} {cs : List (Str × PyData)} {bs : List (Str × String)} {nm ts : List Str} {m : Nat} {p qq : Str} {st : Stmt} {N : List Str} {b : DS}
    (most : l.most = some n) (few : n ≤ sizeLine) (hdf : d.params.defaults = []) (name : d.name = "law") (alone : importsNone q = true) (room : Room (k + 1) callerA) (S : FnScope N [p] (defScope st)) (len2 : 2 ≤ N.length)
    (F : ∀ (w : World) (mg : Str → Option Value) (h : Heap) (K : PySem.W.Frag), K.In h → h.Ns mainGlobals mg → He.SaysD fa fn K → cs.all (gcB K) = true → bs.all (bnB K) = true → ExF K mg nm ts → ∃ fd : FuncData, mg "law" = some (.ref (He.fAd K lawD)) ∧ Fun K "law" "law" st (He.fAd K lawD) fd ∧ (∀ (s : Shared) (u : Value), BindsTo s fd ⟨[u], []⟩ [(p, u)]) ∧
      ∀ (base : Heap) (c0 T : Addr) (s : Shared) (H : Hp) (Z : Par), Mod K mg base → Room k (callerA.deeper (envOfC "law" (defScope st) s.heap.objs.size (He.fAd K lawD) (.ref c0))) → CG (cxOf CX0 l.prog w K mg base N "law" (defScope st) (He.fAd K lawD) (.ref c0) callerA [] s H E0).nox → LamX.TabB base mg (He.codeOf K dd) T → Z.p[0]? = some T →
        PSs (cxOf CX0 l.prog w K mg base N "law" (defScope st) (He.fAd K lawD) (.ref c0) callerA [] s H E0).nox (defBody st) (lfS K Z b))
    (T : ∀ ns : List Int, ns.length ≤ n → fnT N qq 1 b [.dict [(.none, .list (ns.map .int))]] = some (.bool true)) :
    PySem.W.WalkO q loose XP (He.hookX m fa fn [] [dd] (exBn cs bs nm ts)).says l.row.toRowW d [] (fun f vs => PySem.call f vs) := by
  refine Att.attach_call most hdf fun w s₀ s₁ mg mb f o pm cd doc a vs ns G Y _ _ _ hmg hobj hints hlen hg => ?_
  obtain ⟨K, X, Sy⟩ := Y
  have more2 := Sy.more
  unfold exBn at more2
  rw [Bool.and_eq_true] at more2
  have more := more2.1
  unfold exB at more
  rw [Bool.and_eq_true] at more
  obtain ⟨fd, e, Fn, bt, body⟩ := F w mg _ K X G.T.g Sy.t.d more.1 more2.2 (exF_of X G.T.g more.2)
  rw [name] at hmg
  obtain rfl : f = He.fAd K lawD := Value.ref.inj (Option.some.inj (hmg.symm.trans e))
  obtain ⟨mm, sees, _⟩ := (G.T.seer alone).mods
  obtain ⟨c, hc⟩ : ∃ c, fd.code = .ref c := by
    obtain ⟨⟨oc, od, kV, doc, pm, an, cdv, ct, osl, e1, lk, hcdv⟩, kp⟩ := Fn
    subst e1
    exact He.codeIn_ref hcdv
  have in1 : dd ∈ [dd] := List.mem_singleton.mpr rfl
  have hd := Sy.hd dd in1
  exact law_hereN X G.T.g G.T.b G.T.builtins G.T.nolimit ⟨mm, sees⟩ hg hobj hints (Nat.le_trans hlen few) room Fn S bt (Sy.empty dd in1) (Sy.out dd in1) (PySem.W.codeHd_of_K X hd) hc G.T.bmain len2 (fun base s H Z M r cg tb hz => body base c _ s H Z M r cg tb hz) (T ns hlen)
end Dl

namespace Dl
open PySem PySem.Spec PyProof.Rows L2

/-! ### a def that changes the two lists handed in first -/
/-- the lists at two names are two lists -/
def apart (s : Sl) (i j : Nat) : Bool := match s[i]?, s[j]? with
  | some (.own _), some (.own _) => decide (i ≠ j)
  | some (.own _), some (.pot _ _) => true
  | some (.pot _ _), some (.own _) => true
  | some (.pot a _), some (.pot b _) => decide (a ≠ b)
  | _, _ => false
section
variable {K : PySem.W.Frag} {mu : Addr → Prop} {q : List Addr} {Z : Par} {M : List Addr} {σ : L2.St} {H : Hp} {s : Sl}
theorem SlAll.own_ne : ∀ {σ : L2.St} {s : Sl} {M : List Addr} {i j : Nat} {ds es : List PyData}, SlAll K mu q H σ s M → s[i]? = some (.own ds) → s[j]? = some (.own es) → i ≠ j → σ[i]? ≠ σ[j]? := by
  intro σ s M i j ds es t
  induction t generalizing i j with
  | nil => intro e; simp at e
  | @own a xs es' σ s M h d n t ih =>
    intro e1 e2 hij
    cases i with
    | zero =>
      cases j with
      | zero => exact absurd rfl hij
      | succ j =>
        intro e
        obtain ⟨b, ys, g1, g2, _⟩ := t.getOwn (i := j) (by simpa using e2)
        simp only [List.getElem?_cons_zero, List.getElem?_cons_succ, g1, Option.some.injEq, V.ref.injEq] at e
        exact n (e ▸ g2)
    | succ i =>
      cases j with
      | zero =>
        intro e
        obtain ⟨b, ys, g1, g2, _⟩ := t.getOwn (i := i) (by simpa using e1)
        simp only [List.getElem?_cons_zero, List.getElem?_cons_succ, g1, Option.some.injEq, V.ref.injEq] at e
        exact n (e ▸ g2)
      | succ j => simpa using ih (i := i) (j := j) (by simpa using e1) (by simpa using e2) (fun z => hij (by rw [z]))
  | dat h t ih => intro e1 e2 hij; cases i with
    | zero => simp at e1
    | succ i => cases j with
      | zero => simp at e2
      | succ j => simpa using ih (i := i) (j := j) (by simpa using e1) (by simpa using e2) (fun z => hij (by rw [z]))
  | no t ih => intro e1 e2 hij; cases i with
    | zero => simp at e1
    | succ i => cases j with
      | zero => simp at e2
      | succ j => simpa using ih (i := i) (j := j) (by simpa using e1) (by simpa using e2) (fun z => hij (by rw [z]))
  | rf t ih => intro e1 e2 hij; cases i with
    | zero => simp at e1
    | succ i => cases j with
      | zero => simp at e2
      | succ j => simpa using ih (i := i) (j := j) (by simpa using e1) (by simpa using e2) (fun z => hij (by rw [z]))
  | pot e0 h d t ih => intro e1 e2 hij; cases i with
    | zero => simp at e1
    | succ i => cases j with
      | zero => simp at e2
      | succ j => simpa using ih (i := i) (j := j) (by simpa using e1) (by simpa using e2) (fun z => hij (by rw [z]))
  | tab e0 h d w t ih => intro e1 e2 hij; cases i with
    | zero => simp at e1
    | succ i => cases j with
      | zero => simp at e2
      | succ j => simpa using ih (i := i) (j := j) (by simpa using e1) (by simpa using e2) (fun z => hij (by rw [z]))
  | dic h n t ih => intro e1 e2 hij; cases i with
    | zero => simp at e1
    | succ i => cases j with
      | zero => simp at e2
      | succ j => simpa using ih (i := i) (j := j) (by simpa using e1) (by simpa using e2) (fun z => hij (by rw [z]))
theorem Rel.apart (r : Rel K Z M σ H s) {i j : Nat} (h : apart s i j = true) {a b : Addr} (ha : σ[i]? = some (some (.ref a))) (hb : σ[j]? = some (some (.ref b))) : a ≠ b := by
  unfold Dl.apart at h
  split at h
  · rename_i d1 d2 h1 h2
    intro e
    exact r.sl.own_ne h1 h2 (of_decide_eq_true h) (by rw [ha, hb, e])
  · rename_i d1 k d2 h1 h2
    obtain ⟨a', xs, g1, g2, _⟩ := r.sl.getOwn h1
    obtain ⟨b', ys, f1, f2, _⟩ := r.sl.getPot h2
    rw [ha] at g1; cases g1
    rw [hb] at f1; cases f1
    exact fun e => (r.fr _ g2).2.1 (e ▸ List.mem_of_getElem? f2)
  · rename_i k d1 d2 h1 h2
    obtain ⟨a', xs, g1, g2, _⟩ := r.sl.getPot h1
    obtain ⟨b', ys, f1, f2, _⟩ := r.sl.getOwn h2
    rw [ha] at g1; cases g1
    rw [hb] at f1; cases f1
    exact fun e => (r.fr _ f2).2.1 (e ▸ List.mem_of_getElem? g2)
  · rename_i k d1 l d2 h1 h2
    obtain ⟨a', xs, g1, g2, _⟩ := r.sl.getPot h1
    obtain ⟨b', ys, f1, f2, _⟩ := r.sl.getPot h2
    rw [ha] at g1; cases g1
    rw [hb] at f1; cases f1
    intro e
    subst e
    exact of_decide_eq_true h ((List.getElem?_inj (List.getElem?_eq_some_iff.mp g2).1 Z.nd).mp (g2.trans f2.symm))
  · cases h
theorem contents_setC {i j : Nat} {ds es : List PyData} (h : apart s i j = true) (c : contents s j = some es) : contents (setC s i ds) j = some es := by
  unfold Dl.apart at h
  split at h
  · rename_i d1 d2 h1 h2
    have ne : i ≠ j := of_decide_eq_true h
    unfold contents setC at *
    rw [h1]
    simp only [List.getElem?_set_ne ne]
    exact c
  · rename_i d1 k d2 h1 h2
    have ne : i ≠ j := fun e => by subst e; rw [h1] at h2; cases h2
    unfold contents setC at *
    rw [h1]
    simp only [List.getElem?_set_ne ne]
    exact c
  · rename_i k d1 d2 h1 h2
    unfold contents setC at *
    rw [h1]
    rw [h2] at c
    simp only [List.getElem?_map, h2, Option.map_some, potUp]
    exact c
  · rename_i k d1 l d2 h1 h2
    unfold contents setC at *
    rw [h1]
    rw [h2] at c
    have ne : ¬ l = k := fun e => of_decide_eq_true h e.symm
    simp only [List.getElem?_map, h2, Option.map_some, potUp, if_neg ne]
    exact c
  · cases h
end
def spM2 (K : PySem.W.Frag) (m : List PyData → List PyData → List PyData → Option (PyData × List PyData × List PyData)) : Sp := fun vs H Q _ => ∃ mu p q xs ys pd qd rest ds d pd' qd', vs = .ref p :: .ref q :: rest ∧ p ≠ q ∧ mu p ∧ mu q ∧ (∀ a, mu a → ∃ o, H a = some o) ∧ H p = some (.lst xs) ∧ H q = some (.lst ys) ∧ DtAll K mu H xs pd ∧ DtAll K mu H ys qd ∧ DtAll K mu H rest ds ∧
  m pd qd ds = some (d, pd', qd') ∧ ∀ v H' xs' ys', (∀ a o, H a = some o → a ≠ p → a ≠ q → H' a = some o) → H' p = some (.lst xs') → H' q = some (.lst ys') → DtAll K mu H' xs' pd' → DtAll K mu H' ys' qd' → Dt K mu H' v d → Q v H'
def dCallM2 (m : List PyData → List PyData → List PyData → Option (PyData × List PyData × List PyData)) (i j : Nat) (g : DA) : DE := fun s => (contents s i).bind fun _ => (contents s j).bind fun _ => (g s).bind fun p => (contents p.2 i).bind fun pd => (contents p.2 j).bind fun qd =>
  if apart p.2 i j = true then (m pd qd p.1).map fun q => (q.1, setC (setC p.2 i q.2.1) j q.2.2) else none
def startM2 (N : List Str) (pd qd ds : List PyData) : Sl := SV.pot 0 pd :: SV.pot 1 qd :: (ds.map SV.dat ++ List.replicate (N.length - 2 - ds.length) .no)
def potOf1 : Option SV → Option (List PyData)
  | some (.pot 1 pd) => some pd
  | _ => none
theorem potOf1_eq {x : Option SV} {pd : List PyData} (h : potOf1 x = some pd) : x = some (.pot 1 pd) := by
  unfold potOf1 at h
  split at h
  · cases h; rfl
  · cases h
def potsOf (s : Sl) : Option (List PyData × List PyData) := (potOf s[0]?).bind fun a => (potOf1 s[1]?).map fun b => (a, b)
def outM2 : Option Fl → Option (PyData × List PyData × List PyData)
  | some (.rt d s) => (potsOf s).map fun pd => (d, pd)
  | some (.nx s) => (potsOf s).map fun pd => (.none, pd)
  | _ => none
def fnM2 (N : List Str) (n : Nat) (b : DS) : List PyData → List PyData → List PyData → Option (PyData × List PyData × List PyData) := fun pd qd ds => if ds.length + 2 = n then outM2 (b (startM2 N pd qd ds)) else none
section
variable {X : Cx} {Z : Par} {a b e e2 : Expr} {es : List Expr} {pos : Pos} {ga : DA} {k j : Nat} {f : Addr} {fd : FuncData} {ps : List Str} {x : Str} {p : Pos} {E : XK}
theorem lift_callM2 {K : PySem.W.Frag} {m : List PyData → List PyData → List PyData → Option (PyData × List PyData × List PyData)} {i j : Nat} {σ : L2.St} {H : Hp} {Q : VK} (h : lft K Z (dCallM2 m i j ga) σ H Q) : tCall (spM2 K m) [] E (tCons (tVar i) (tCons (tVar j) (lfA K Z ga))) σ H Q := by
  obtain ⟨M, s, d, s', rl, hf, k⟩ := h
  unfold dCallM2 at hf
  simp only [Option.bind_eq_some_iff] at hf
  obtain ⟨pd0, h0, qd0, h0', ⟨ds, s1⟩, h1, pd, h2, qd, h2', h3⟩ := hf
  dsimp only at h2 h2' h3
  split at h3
  case isFalse => cases h3
  rename_i ap
  simp only [Option.map_eq_some_iff] at h3
  obtain ⟨⟨d1, pd1, qd1⟩, h3, h4⟩ := h3
  cases h4
  obtain ⟨a0, xs0, g1, _⟩ := rl.at h0
  obtain ⟨b0, ys0, g1', _⟩ := rl.at h0'
  refine ⟨.ref a0, g1, .ref b0, g1', M, s, ds, s1, rl, h1, fun vs H1 k1 r1 t1 => ?_⟩
  show spM2 K m ((V.ref a0 :: V.ref b0 :: vs) ++ []) H1 Q E
  rw [List.append_nil]
  obtain ⟨a1, xs, e1, e2, e3, e4, e5⟩ := r1.at h2
  rw [g1] at e1
  cases e1
  obtain ⟨b1, ys, f1, f2, f3, f4, f5⟩ := r1.at h2'
  rw [g1'] at f1
  cases f1
  have ne : a0 ≠ b0 := r1.apart ap g1 g1'
  refine ⟨Mu Z M, a0, b0, xs, ys, pd, qd, vs, ds, _, pd1, qd1, rfl, ne, e4, f4, r1.muT, e2, f2, e3, f3, t1, h3, fun v H2 xs2 ys2 g2 g3 g3' t2 t2' t3 => ?_⟩
  -- in between: the other list as it was
  have same : (upd H2 b0 (.lst ys)) b0 = some (.lst ys) := upd_same
  have k12 : Kp (Mu Z M) H2 (Mu Z M) (upd H2 b0 (.lst ys)) := fun c o e n => ⟨by rw [upd_ne (fun z => n (by rw [z]; exact f4))]; exact e, n⟩
  obtain ⟨r2, k2⟩ := e5 (upd H2 b0 (.lst ys)) xs2 pd1 (by rw [upd_ne ne]; exact g3) (fun c o e n => by
    by_cases z : c = b0
    · subst z
      rw [f2] at e
      cases e
      exact same
    · rw [upd_ne z]
      exact g2 c o e n z) (t2.mono k12)
  obtain ⟨b2, ys', m1, m2, m3, m4, m5⟩ := r2.at (contents_setC ap h2')
  rw [g1'] at m1
  cases m1
  obtain ⟨r3, k3⟩ := m5 H2 ys2 qd1 g3' (fun c o e n => by rwa [upd_ne n] at e) t2'
  exact k v H2 (k1.trans (k2.trans k3)) r3 t3
theorem dcallM2 {m : List PyData → List PyData → List PyData → Option (PyData × List PyData × List PyData)} (i i2 : Nat) (F : FnOk X.prog X.w X.K X.mg X.base CX0 k f fd ps (spM2 X.K m)) (hr : Room k X.A) (hg : Gl X x) (hm : X.mg x = some (.ref f)) (hk : PySem.W.keepIn X.K (.ref f) = true) (hb : Binds X.K fd ps []) (h1 : PE X e (tVar i)) (h2 : PE X e2 (tVar i2)) (ha : PA X es (lfA X.K Z ga)) (hx : Passes CX0 X E0 := by exact pass0)
    (hdb : (x == ("__debug__" : Str)) = false := by decide) (he : starEach (e :: e2 :: es) X.env = (false, eval e X.env) :: starEach (e2 :: es) X.env := by rfl) (he2 : starEach (e2 :: es) X.env = (false, eval e2 X.env) :: starEach es X.env := by rfl) (hpl : (backTo pos (starEach (e2 :: es) X.env)).any (·.1) = false := by rfl) :
    PE X (.Call (.Name x p) (e :: e2 :: es) [] pos) (lft X.K Z (dCallM2 m i i2 ga)) := PEimp (pe_call F hr hg hm hk hb .nil hx (pa_cons h1 (pa_cons h2 ha he2) he) hdb he hpl) fun _ _ _ h => lift_callM2 h
theorem dclM2 {m : List PyData → List PyData → List PyData → Option (PyData × List PyData × List PyData)} (i i2 : Nat) (c : Cal X.prog X.w X.K X.mg X.base j x ps (spM2 X.K m)) (hr : Room k X.A) (hj : j ≤ k) (hg : Gl X x) (h1 : PE X e (tVar i)) (h2 : PE X e2 (tVar i2)) (ha : PA X es (lfA X.K Z ga)) (hx : Passes CX0 X E0 := by exact pass0)
    (hdb : (x == ("__debug__" : Str)) = false := by decide) (he : starEach (e :: e2 :: es) X.env = (false, eval e X.env) :: starEach (e2 :: es) X.env := by rfl) (he2 : starEach (e2 :: es) X.env = (false, eval e2 X.env) :: starEach es X.env := by rfl) (hpl : (backTo pos (starEach (e2 :: es) X.env)).any (·.1) = false := by rfl) :
    PE X (.Call (.Name x p) (e :: e2 :: es) [] pos) (lft X.K Z (dCallM2 m i i2 ga)) := by
  obtain ⟨f, fd, F, hm, hk, hb⟩ := c
  exact dcallM2 i i2 F (hr.mono hj) hg hm hk hb h1 h2 ha hx hdb he he2 hpl
end
section
variable {P : Program} {w : World} {K : PySem.W.Frag} {mg : Str → Option Value} {base : Heap}
theorem okM2 {x qual : Str} {st : Stmt} {f : Addr} {fd : FuncData} {N ps : List Str} {k : Nat} {b : DS} (F : Fun K x qual st f fd) (S : FnScope N ps (defScope st))
    (hb : ∀ (cdv : Value) (A : Around) (outer : List Env) (s : Shared) (H : Hp) (E : XK) (Z : Par), Room k (A.deeper (envOfC qual (defScope st) s.heap.objs.size f cdv)) → PSs (cxOf CX0 P w K mg base N qual (defScope st) f cdv A outer s H E).nox (defBody st) (lfS K Z b)) :
    FnOk P w K mg base CX0 (k + 1) f fd ps (spM2 K (fnM2 N ps.length b)) := by
  refine F.ok S (fun vs H Q E h => ?_) (fun cdv A outer s H vs Q E hr h => ?_)
  · obtain ⟨mu, p, q, xs, ys, pd, qd, rest, ds, d, pd', qd', rfl, hne, h0, h0', h1, h2, h2', h3, h3', h4, h5, h6⟩ := h
    unfold fnM2 at h5
    split at h5
    · rename_i hl
      rw [List.length_cons, List.length_cons, h4.len]; exact hl
    · cases h5
  · obtain ⟨mu, p, q, xs, ys, pd, qd, rest, ds, d, pd', qd', rfl, hne, h0, h0', h1, h2, h2', h3, h3', h4, h5, h6⟩ := h
    unfold fnM2 at h5
    split at h5
    case isFalse => cases h5
    rename_i hl
    let Z : Par := ⟨H, [p, q], mu, by simpa using hne⟩
    refine ⟨_, hb cdv A outer s H E Z hr, [], startM2 N pd qd ds, ?_⟩
    have inn : ∀ {a}, a ∈ Z.p → a = p ∨ a = q := fun {a} h => by simpa [Z] using h
    have muE : ∀ a, Mu Z [] a → mu a := fun a z => by
      rcases z with z | z | z
      · exact z
      · rcases inn z with e | e
        · rw [e]; exact h0
        · rw [e]; exact h0'
      · cases z
    have kk : Kp mu H (Mu Z []) H := fun a o e n => ⟨e, fun z => n (muE a z)⟩
    have r : Rel K Z [] (start N (.ref p :: .ref q :: rest)) H (startM2 N pd qd ds) := by
      refine ⟨fun a o e _ => e, fun a ha => (by cases ha), h1, fun a ha => ?_, ?_⟩
      · rcases inn ha with e | e
        · exact ⟨_, e ▸ h2⟩
        · exact ⟨_, e ▸ h2'⟩
      unfold startM2 L2.start
      have e : N.length - (V.ref p :: V.ref q :: rest).length = N.length - 2 - ds.length := by rw [List.length_cons, List.length_cons, h4.len]; omega
      rw [e]
      exact .pot (i := 0) rfl h2 (h3.mono kk) (.pot (i := 1) rfl h2' (h3'.mono kk) (slAll_start _ (h4.mono kk)))
    have fin : ∀ {M : List Addr} {σ : L2.St} {H1 : Hp} {s1 : Sl} {z : List PyData × List PyData}, Rel K Z M σ H1 s1 → potsOf s1 = some z → ∃ xs1 ys1, H1 p = some (.lst xs1) ∧ H1 q = some (.lst ys1) ∧ DtAll K mu H1 xs1 z.1 ∧ DtAll K mu H1 ys1 z.2 := fun {M σ H1 s1 z} r1 e => by
      unfold potsOf at e
      simp only [Option.bind_eq_some_iff, Option.map_eq_some_iff] at e
      obtain ⟨u, e1, v, e2, e3⟩ := e
      subst e3
      obtain ⟨a, xs1, _, g2, g3, g4⟩ := r1.sl.getPot (potOf_eq e1)
      obtain ⟨b, ys1, _, f2, f3, f4⟩ := r1.sl.getPot (potOf1_eq e2)
      cases g2
      cases f2
      exact ⟨xs1, ys1, g3, f3, g4.mono fun a o e n => ⟨e, fun z => n (.inl z)⟩, f4.mono fun a o e n => ⟨e, fun z => n (.inl z)⟩⟩
    have bs : ∀ {M : List Addr} {σ : L2.St} {H1 : Hp} {s1 : Sl}, Rel K Z M σ H1 s1 → ∀ a o, H a = some o → a ≠ p → a ≠ q → H1 a = some o := fun r1 a o e n n' => r1.base a o e (fun z => (inn z).elim n n')
    unfold outM2 at h5
    split at h5
    · rename_i d1 s1 hq
      simp only [Option.map_eq_some_iff] at h5
      obtain ⟨z, hp, h5⟩ := h5
      cases h5
      refine ⟨_, r, hq, fun M σ H1 v k1 r1 t1 => ?_⟩
      obtain ⟨xs1, ys1, e1, e1', e2, e2'⟩ := fin r1 hp
      exact h6 v H1 xs1 ys1 (bs r1) e1 e1' e2 e2' (t1.mono fun a o e n => ⟨e, fun z => n (.inl z)⟩)
    · rename_i s1 hq
      simp only [Option.map_eq_some_iff] at h5
      obtain ⟨z, hp, h5⟩ := h5
      cases h5
      refine ⟨_, r, hq, fun M σ H1 k1 r1 => ?_⟩
      obtain ⟨xs1, ys1, e1, e1', e2, e2'⟩ := fin r1 hp
      exact h6 _ H1 xs1 ys1 (bs r1) e1 e1' e2 e2' .non
    · cases h5
theorem calM2 {x : Str} {st : Stmt} {N ps : List Str} {k : Nat} {b : DS} (F : Std K mg x st ps) (S : FnScope N ps (defScope st))
    (hb : ∀ (f : Addr) (cdv : Value) (A : Around) (outer : List Env) (s : Shared) (H : Hp) (E : XK) (Z : Par), Room k (A.deeper (envOfC x (defScope st) s.heap.objs.size f cdv)) → PSs (cxOf CX0 P w K mg base N x (defScope st) f cdv A outer s H E).nox (defBody st) (lfS K Z b)) :
    Cal P w K mg base (k + 1) x ps (spM2 K (fnM2 N ps.length b)) := by
  obtain ⟨f, fd, F, hm, hb2⟩ := F
  exact ⟨f, fd, okM2 F S (fun cdv A outer s H E Z hr => hb f cdv A outer s H E Z hr), hm, F.kp, hb2⟩
theorem Std.noneM2 {x : Str} {st : Stmt} {ps : List Str} (c : Std K mg x st ps) (k : Nat) : Cal P w K mg base k x ps (spM2 K fun _ _ _ => none) := by
  obtain ⟨f, fd, F, hm, hb⟩ := c
  refine ⟨f, fd, ⟨fun vs H Q E h => ?_, fun A outer s H args us vs Q E hr e hb hv h => ?_⟩, hm, F.kp, hb⟩
  · obtain ⟨_, _, _, _, _, _, _, _, _, _, _, _, _, _, _, _, _, _, _, _, _, _, z, _⟩ := h
    cases z
  · obtain ⟨_, _, _, _, _, _, _, _, _, _, _, _, _, _, _, _, _, _, _, _, _, _, z, _⟩ := h
    cases z
end
end Dl

/-! ### a comprehension in which a def's own def is called: its block knows at its start what the captured cells hold -/
namespace Dl
open PySem PySem.Spec PyProof.Rows L2 NdefX
structure Tie (X : Cx) (cl : List (Str × Addr)) (fr : List Str) (ws : List (Option V)) (s : Shared) (H : Hp) (fp : List Addr) : Prop where
  cells : CellsAt cl fr ws s.heap H
  nofs : ∀ y c, cl.lookup y = some c → c ∉ frs X.stack
  noex : ∀ y c, cl.lookup y = some c → c ∉ fp
theorem Tie.later {X : Cx} {cl : List (Str × Addr)} {fr : List Str} {ws : List (Option V)} {s s' : Shared} {H H' : Hp} {fp : List Addr} {scope : Scope} {cenv : Env} {pins : List (Addr × Obj)} {σ : L2.St} (t : Tie X cl fr ws s H fp) (I : Inv (X.blk s H scope cenv fp) pins σ H' s') : CellsAt cl fr ws s'.heap H' :=
  CellsAt.later (X := X.blk s H scope cenv fp) t.cells t.nofs t.noex I
theorem CellsAt.kept {cl : List (Str × Addr)} {fr : List Str} {ws : List (Option V)} {h h' : Heap} {H H' : Hp} (C : CellsAt cl fr ws h H) (k : ∀ b o, h.get? b = some o → h'.get? b = some o) (n : ∀ y c, cl.lookup y = some c → H' c = none) : CellsAt cl fr ws h' H' :=
  ⟨C.len, fun y c e => let ⟨_, v, z⟩ := C.all y c e; ⟨n y c e, v, z.keeps k⟩, C.inj, fun i y e => let ⟨c, e1, e2⟩ := C.has i y e; ⟨c, e1, fun v ev => let ⟨u, r, z⟩ := e2 v ev; ⟨u, r, z.keeps k⟩⟩⟩
section
variable {X : Cx} {cl : List (Str × Addr)} {fr : List Str} {ws : List (Option V)}
theorem pe_lcTie {Cσ : L2.St → Prop} {elt tg iter : Expr} {scope : Scope} {own : List (Str × Nat)} {pos : Pos} {wi : TI} {g : TG} {te : TE} (calm : X.calm = true) (nd : X.N.Nodup) (walk : PI X tg iter wi) (blk : BlkOk X.N X.env.scope scope own)
    (cellsNow : ∀ pins σ H s, Inv X pins σ H s → Cσ σ → CellsAt cl fr ws s.heap H) (sub : X.Ok → ∀ y c, cl.lookup y = some c → X.env.cells.lookup y = some c) (away : ∀ pins σ H s, Inv X pins σ H s → ∀ y c, cl.lookup y = some c → c ∉ frs X.stack)
    (put : ∀ (s : Shared) (H : Hp) (C : Addr) (l : List (Str × Addr)) (fp : List Addr), PG (X.blk s H scope (compEnvC scope l C X.env) fp) tg g)
    (item : ∀ (s : Shared) (H : Hp) (C : Addr) (l : List (Str × Addr)) (fp : List Addr), Tie X cl fr ws s H fp → PE (X.blk s H scope (compEnvC scope l C X.env) fp) elt te) (plain : ∀ x, foldedSetIterable iter X.env x = pure x := by intro _; rfl) :
    PE X (.ListComp elt [⟨tg, iter, [], 0⟩] scope pos) (fun σ H Q => Cσ σ ∧ tLc wi g tYes te (own.map (·.2)) σ H Q) := by
  refine ⟨fun pins s σ H Q I h => ?_⟩
  obtain ⟨hC, h⟩ := h
  rw [eval_ListComp]
  have held : ∀ y ∈ scope.names, y.2 = .free → ∃ c, X.env.cells.lookup y.1 = some c := fun y m e =>
    match blk.free y m e with
    | .inl k => I.ok.has _ (.inl k)
    | .inr k => I.ok.has _ (.inr k)
  have first := walk.run pins s σ H _ I h
  refine wpAny_comprehension_free (use := none) rfl plain (closure_ok held) blk.kind (fun y m e => by rw [blk.uniq y m, e]) (wpAny_mono first (fun xv sa ha => wpAny_mono ha (fun itv sb hb => ?_) fun _ _ z => z) fun _ _ z => z)
  obtain ⟨it, fp, tn, J, Hb, rfl, Ib, Tn, at0, fpb, more⟩ := hb
  refine wpAny_newObj_type (newEnv_comp ?_) (Nat.zero_le _)
  -- the new list at D
  obtain ⟨D, hD⟩ : ∃ D, sb.heap.objs.size = D := ⟨_, rfl⟩
  rw [hD]
  have free0 : Hb D = none := Ib.hok.fresh (Nat.le_of_eq hD)
  obtain ⟨W, ⟨m0, w0⟩, turns⟩ := more D free0
  obtain ⟨sc, hsc⟩ : ∃ sc : Shared, sc = { sb with heap := sb.heap.push { cls := .type "list", data := .seq ([] : List Value).toArray } } := ⟨_, rfl⟩
  have hh : sc.heap = sb.heap.push { cls := .type "list", data := .seq ([] : List Value).toArray } := by rw [hsc]
  have Ic : Inv X pins σ (upd Hb D (.lst [])) sc := by
    subst hsc
    exact Ib.laid (t' := sb.toks) (fun b o e => Heap.get?_push_of_some _ e) (Nat.le_of_eq hD) ⟨Nat.zero_le _, [], 0, .nil, by rw [← hD]; exact Heap.get?_push_size _ rfl⟩
  have kc : ∀ b o, sb.heap.get? b = some o → sc.heap.get? b = some o := fun b o e => by rw [hh]; exact Heap.get?_push_of_some _ e
  have below : ∀ b ∈ fp, b < sb.heap.objs.size := fun b m => let ⟨_, e, _⟩ := Tn.obj _ _ at0 b m; Heap.lt_size e
  have fpc : ∀ b ∈ fp, FpOk X pins (upd Hb D (.lst [])) b ∧ b < sc.heap.objs.size := fun b m => by
    have lt := below b m
    refine ⟨⟨?_, (fpb b m).2⟩, by rw [hh, Heap.size_push]; exact Nat.lt_succ_of_lt lt⟩
    rw [upd_ne (by rw [← hD]; exact Nat.ne_of_lt lt)]
    exact (fpb b m).1
  have tied : Tie X cl fr ws sc (upd Hb D (.lst [])) fp := ⟨cellsNow _ _ _ _ Ic hC, away _ _ _ _ Ic, fun y c e m => (fpb c m).2.2.2.2.1 y c (sub Ic.ok y c e) rfl⟩
  have atc : tn 0 sc.heap := Tn.keep _ _ _ at0 fun b _ o e => kc b o e
  have Id := block_start Ic blk nd fpc
  have p1 := put sc (upd Hb D (.lst [])) sc.heap.objs.size (cellsFrom (sc.heap.objs.size + 1) scope.names (cloFrom X.env.cells scope.names [])) fp
  have p2 := item sc (upd Hb D (.lst [])) sc.heap.objs.size (cellsFrom (sc.heap.objs.size + 1) scope.names (cloFrom X.env.cells scope.names [])) fp tied
  have nofp : ∀ b ∈ fp, (upd Hb D (.lst [])) b = none := fun b m => (fpc b m).1.1
  obtain ⟨ce, hce⟩ : ∃ ce, ce = compEnvC scope (cellsFrom (sc.heap.objs.size + 1) scope.names (cloFrom X.env.cells scope.names [])) sc.heap.objs.size X.env := ⟨_, rfl⟩
  rw [← hce] at Id p1 p2
  have lce : ce.locals = sc.heap.objs.size := by subst hce; rfl
  obtain ⟨Hc, hHc⟩ : ∃ Hc, Hc = upd Hb D (.lst []) := ⟨_, rfl⟩
  rw [← hHc] at Ic Id p1 p2 w0 nofp fpc
  obtain ⟨sd, hsd⟩ : ∃ sd : Shared, sd = { sc with heap := pushCells (sc.heap.push { cls := .type "dict", data := .dict #[] }) scope.names } := ⟨_, rfl⟩
  rw [← hsd] at Id
  have atd : tn 0 sd.heap := Tn.keep _ _ _ atc fun b _ o e => by rw [hsd]; exact pushCells_keeps _ _ _ _ (Heap.get?_push_of_some _ e)
  -- what holds between turns
  let B : Cx := X.blk sc Hc scope ce fp
  let In : Nat → Shared → Prop := fun n s' => ∃ i H', Inv B [] (wipe σ (own.map (·.2))) H' s' ∧ tn i s'.heap ∧ (∀ b ∈ fp, H' b = none) ∧ W i n H'
  have okB : ∀ {σ' : L2.St} {H' : Hp} {s' : Shared}, Inv B [] σ' H' s' → (∀ b ∈ fp, H' b = none) → ∀ b ∈ fp, FpOk B [] H' b := fun I' n b m =>
    ⟨n b m, (I'.ok.exf b m).1, I'.ok.exfs b m, .inl m, fun x c e => (I'.ok.exf b m).2 x c e, fun p hp => by cases hp⟩
  have loop : codeAny (model X.prog X.w) X.A (.compLoop (.ListComp elt [⟨tg, iter, [], 0⟩] scope pos) 0 (.ref it) (.ref D) ce) (compPost (model X.prog X.w) X.A X.xe none (EP X pins σ Q) (.ref D) sc.heap.objs.size) sd := by
    refine compLoop_any In ?_ m0 ⟨0, Hc, Id, atd, nofp, w0⟩
    intro n se ⟨i, He, Ie, ate, ne, we⟩
    rcases turns i n He we with ⟨stop, qq⟩ | ⟨go, Nx, next, step⟩
    · -- the end: back in the def
      refine thnF (Tn.done B rfl rfl rfl calm i [] se _ He (fun _ _ => False) Ie (okB Ie ne) ate stop) fun r sf ⟨hr, If⟩ => ?_
      subst hr
      have Ig : Inv X pins σ He sf := Ic.call' (ch := fp) If.os If.base If.hok If.bare fun b m => let f := (fpc b m).1; ⟨f.2.2.2.1, f.2.1, f.2.2.2.2.1, f.2.2.2.2.2⟩
      have freeC : He sc.heap.objs.size = none := lce ▸ If.free
      obtain ⟨m, names, _⟩ := If.loc
      have names' : sf.heap.Ns sc.heap.objs.size m := lce ▸ names
      obtain ⟨f0, f1, f2, f3, f4, f5⟩ := Ic.fpOk (Nat.le_refl _) freeC
      exact ⟨m, names', fun h' same => ⟨.ref D, He, Ig.turned (t' := sf.toks) (fun b o z e => (same.2 b z).trans e) f0 f1 f3 f4 f5, rfl, qq⟩⟩
    · refine thnF (Tn.item B rfl rfl rfl calm i [] se _ He (fun _ _ => False) Ie (okB Ie ne) ate go) fun r sf ⟨u, hr, hf⟩ => ?_
      subst hr
      refine thnF hf fun _ sg ⟨x, Hg, Ig, rx, yx, atg, ng⟩ => ?_
      have Ip := Ig.pinned (okB Ig ng) (Tn.obj _ _ atg)
      refine thnF (p1.run _ sg _ Hg x u _ Ip rx (step x Hg yx)) fun _ sh ⟨σh, Hh, Ih, same, qh⟩ => ?_
      refine thnF ((pts_nil (X := B)).run _ sh σh Hh _ Ih qh) fun b si ⟨Hi, Ii, qi⟩ => ?_
      have again : ∀ {s' : Shared} {H' : Hp}, Inv B ([] ++ pinsAt fp sg.heap) σh H' s' → Nx H' → ∃ m, m < n ∧ In m s' := fun {s' H'} I' nx => by
        obtain ⟨m', less, w'⟩ := next H' nx
        have pinned : ∀ b ∈ fp, ∀ o, sg.heap.get? b = some o → s'.heap.get? b = some o ∧ H' b = none := fun b m o e =>
          have z := I'.pin (b, o) (List.mem_append_right _ (List.mem_append_right _ (mem_pinsAt m e)))
          ⟨z.1, z.2.1⟩
        refine ⟨m', less, i + 1, H', (I'.unpinned (pins := [])).weak (by rw [← same, wipe_length]) (fun j v e => ?_), Tn.keep _ _ _ atg fun b m o e => (pinned b m o e).1, fun b m => ?_, w'⟩
        · exact (wipe_some (same ▸ e)).1
        · obtain ⟨o, e, _⟩ := Tn.obj _ _ atg b m
          exact (pinned b m o e).2
      cases b with
      | false => exact again Ii qi
      | true =>
        refine thnF (p2.run _ si σh Hi _ Ii qi) fun z sj ⟨yv, Hj, Ij, rj, acc, hacc, few, nx⟩ => ?_
        exact app_ok (X := B) Ij hacc few rj fun sk Ik => again Ik nx
  have done := codeAny_compStart_list loop (Tn.self X.A 0 _ _ _ atd loop)
  subst hce hsd
  exact hsc ▸ done
end
end Dl

/-! ### a def's own def that captures the list handed in: made, called, its promise -/
namespace Dl
open PySem PySem.Spec PyProof.Rows L2 NdefX
/-! #### made -/
def tNdefT (P : Addr) (q : Str) (i : Nat) (mk : Addr → NF) : TS := fun D σ H => ∃ old : Addr → Prop, Tabl H P q old ∧ ∀ (f c' : Addr) (H1 : Hp), (∀ b o, b ≠ P → H b = some o → H1 b = some o) → Tabl H1 P q (fun c => old c ∨ H c = none) → H f = none → H1 f = some (FnO f (mk c')) → H1 c' = some (LamX.CodeO c' q) → D.nx (σ.set i (some (.ref f))) H1
section
variable {X : Cx} {pins : List (Addr × Obj)} {σ : L2.St} {H : Hp} {s : Shared}
theorem ndef_new {c P : Addr} {old : Addr → Prop} {name : Str} {params : Arguments} {body : List Stmt} {scope : Scope} {pos : Pos} {F : Value → Shared → Prop} {Q : Value → Shared → Prop} (I : Inv X pins σ H s) (TB : LamX.TabB X.base X.mg c P) (hcode : X.env.code = .ref c)
    (tab : Tabl H P (X.env.qual ++ name) old) (held : ∀ y ∈ scope.names, y.2 = .free → ∃ c, X.env.cells.lookup y.1 = some c)
    (h : ∀ (f c' : Addr) (H1 : Hp) (s1 : Shared), Inv X pins σ H1 s1 → (∀ b o, b ≠ P → H b = some o → H1 b = some o) → Tabl H1 P (X.env.qual ++ name) (fun c => old c ∨ H c = none) → H f = none →
      H1 f = some (FnO f ⟨name, X.env.qual ++ name, params, body, scope, cloFrom X.env.cells scope.names [], c'⟩) → H1 c' = some (LamX.CodeO c' (X.env.qual ++ name)) → Q (.ref f) s1) :
    wpAny (model X.prog X.w) X.A (makeFunction name (X.env.qual ++ name) params (.stmts body) scope X.env [] [] [] pos pos.line) Q F s := by
  obtain ⟨ps, atP, tr, codes⟩ := tab
  have mods : s.heap.BuiltinsAt X.mg P := TB.bm.keeps I.bk
  have inHeap : s.heap.get? P = some { cls := .none, data := .fields ps } := I.hok P _ atP
  rcases found : codeAmong pos ps.toList with _ | cv
  · refine PySem.W.makeFunction_K (mg := X.mg) (c := c) (P := P) (ps := ps) (closure_ok held) I.ok.glob (I.mod.glob.keeps I.bk) hcode (TB.code.keeps I.bk) inHeap tr found TB.gP mods fun c' ctv doc h1 tk ext ge lt rec here => ?_
    obtain ⟨_, oc, us, u, e, g1, g2, g3⟩ := rec
    cases e
    have new : H c' = none := I.hok.fresh ge
    have J := LamX.inv_table (t' := tk) (more := #[rawInt pos.line, rawInt pos.col, .ref c']) (h' := h1) I atP (fun b o nb e => ext b o nb e) here ge ⟨oc, us, u, g1, g2, g3⟩
    have stays : ∀ b o, b ≠ P → H b = some o → (upd (upd H P (.tbl (ps ++ #[rawInt pos.line, rawInt pos.col, .ref c']))) c' (LamX.CodeO c' (X.env.qual ++ name))) b = some o := fun b o nb e => by
      rw [upd_ne (ne_of_none e new), upd_ne nb]; exact e
    have two : (ps ++ #[rawInt pos.line, rawInt pos.col, .ref c']).toList = ps.toList ++ [rawInt pos.line, rawInt pos.col, .ref c'] := by simp
    have newF := J.hok.fresh (Nat.le_refl _)
    have J2 := inv_fn (F := ⟨name, X.env.qual ++ name, params, body, scope, cloFrom X.env.cells scope.names [], c'⟩) (t' := tk) (doc := doc) (pm := (X.mg "__name__").getD .none) (ctv := ctv) J rfl
    refine h h1.objs.size c' _ _ J2 (fun b o nb e => ?_) ⟨ps ++ #[rawInt pos.line, rawInt pos.col, .ref c'], ?_, ?_, fun p2 cv hcv => ?_⟩ (I.hok.fresh (Nat.le_trans ge (Nat.le_of_lt lt))) upd_same ?_
    · exact (upd_ne (ne_of_none (stays b o nb e) newF)).trans (stays b o nb e)
    · have e : (upd (upd H P (.tbl (ps ++ #[rawInt pos.line, rawInt pos.col, .ref c']))) c' (LamX.CodeO c' (X.env.qual ++ name))) P = some (.tbl (ps ++ #[rawInt pos.line, rawInt pos.col, .ref c'])) := by rw [upd_ne (ne_of_none atP new), upd_same]
      exact (upd_ne (ne_of_none e newF)).trans e
    · rw [two]; exact TriplesOk_snoc _ _ _ _ tr
    · rw [two] at hcv
      rcases LamX.among_app _ tr hcv with z | z
      · obtain ⟨d, e1, e2, e3⟩ := codes p2 cv z
        have e4 := stays d _ (fun w => by
          rw [w, atP] at e2
          exact LamX.codeO_ne ps (Option.some.inj e2).symm) e2
        exact ⟨d, e1, (upd_ne (ne_of_none e4 newF)).trans e4, .inl e3⟩
      · exact ⟨c', z, (upd_ne (Nat.ne_of_lt lt)).trans upd_same, .inr new⟩
    · exact (upd_ne (Nat.ne_of_lt lt)).trans upd_same
  · obtain ⟨c', e, co, ol⟩ := codes pos cv found
    subst e
    refine PySem.W.makeFunction_hit (mg := X.mg) (c := c) (P := P) (ps := ps) (closure_ok held) I.ok.glob (I.mod.glob.keeps I.bk) hcode (TB.code.keeps I.bk) inHeap tr found mods fun ctv doc h1 tk ext behind => ?_
    have J : Inv X pins σ H { s with heap := h1, toks := tk } := I.kept ext
    have newF : H h1.objs.size = none := J.hok.fresh (Nat.le_refl _)
    have J2 := inv_fn (F := ⟨name, X.env.qual ++ name, params, body, scope, cloFrom X.env.cells scope.names [], c'⟩) (t' := tk) (doc := doc) (pm := (X.mg "__name__").getD .none) (ctv := ctv) J rfl
    have stays : ∀ b o, H b = some o → (upd H h1.objs.size (FnO h1.objs.size ⟨name, X.env.qual ++ name, params, body, scope, cloFrom X.env.cells scope.names [], c'⟩)) b = some o := fun b o e => (upd_ne (ne_of_none e newF)).trans e
    refine h h1.objs.size c' _ _ J2 (fun b o _ e => stays b o e) ⟨ps, stays _ _ atP, tr, fun p2 cv z => ?_⟩ newF upd_same (stays _ _ co)
    obtain ⟨d, e1, e2, e3⟩ := codes p2 cv z
    exact ⟨d, e1, stays _ _ e2, .inl e3⟩
theorem ps_ndefT {st : Stmt} {c P : Addr} {name q : Str} {pos : Pos} {i : Nat} (hst : st = .FunctionDef name (C8.fnArgs st) (C8.fnBody st) [] none [] (C8.fnScope st) none name pos) (TB : LamX.TabB X.base X.mg c P) (hcode : X.env.code = .ref c) (hq : q = X.env.qual ++ name)
    (hfree : ∀ y ∈ (C8.fnScope st).names, y.2 = .free → X.env.scope.names.lookup y.1 = some .cell ∨ X.env.scope.names.lookup y.1 = some .free) (hd0 : (C8.fnArgs st).defaults = []) (hk0 : (C8.fnArgs st).kw_defaults = []) (ha : annTrees (C8.fnArgs st) none X.env = [])
    (hN : X.N.Nodup) (hi : X.N[i]? = some name) (hx : Loc X.env.scope name) (hf : X.fn name = true ∨ X.env.scope.names.lookup name = some .local) :
    PS X st (tNdefT P q i (NF.of st name q (cloFrom X.env.cells (C8.fnScope st).names []))) := by
  subst hq
  refine ⟨fun pins s σ H D I h => ?_⟩
  obtain ⟨old, tab, h⟩ := h
  have hq : qualnameIn X.env name name = X.env.qual ++ name := by
    have hk : X.env.kindOf name = some .local ∨ X.env.kindOf name = some .cell := hx
    unfold qualnameIn
    rcases hk with k | k <;> rw [k] <;> first | rfl | exact if_neg (by decide)
  rw [hst]
  refine PySem.W.nestDef_K hd0 hk0 ha ?_
  rw [hq]
  have held : ∀ y ∈ (C8.fnScope st).names, y.2 = .free → ∃ c, X.env.cells.lookup y.1 = some c := fun y hy e => (hfree y hy e).elim (fun z => I.ok.has _ (.inl z)) fun z => I.ok.has _ (.inr z)
  refine ndef_new I TB hcode tab held fun f c' H1 s1 I1 stays tab1 f0 f1 c1 => ?_
  exact store_ok I1 hN hi hx (v := .ref f) rfl (fun s2 J => ⟨_, H1, J, h f c' H1 stays tab1 f0 f1 c1⟩) hf
end
/-! #### its promise -/
def spN (K : PySem.W.Frag) (m : List PyData → List PyData → Option (PyData × List PyData)) : List (Option V) → Sp := fun ws vs H Q _ => ∃ mu p xs pd ds d pd', ws = [some (.ref p)] ∧ mu p ∧ (∀ a, mu a → ∃ o, H a = some o) ∧ H p = some (.lst xs) ∧ DtAll K mu H xs pd ∧ DtAll K mu H vs ds ∧
  m pd ds = some (d, pd') ∧ ∀ v H' xs', (∀ a o, H a = some o → a ≠ p → H' a = some o) → H' p = some (.lst xs') → DtAll K mu H' xs' pd' → Dt K mu H' v d → Q v H'
def startN (N : List Str) (pd ds : List PyData) : Sl := ds.map SV.dat ++ (SV.pot 0 pd :: List.replicate (N.length - ds.length - 1) .no)
def outN (n : Nat) : Option Fl → Option (PyData × List PyData)
  | some (.rt d s) => (potOf s[n]?).map fun pd => (d, pd)
  | some (.nx s) => (potOf s[n]?).map fun pd => (.none, pd)
  | _ => none
def fnN (N : List Str) (n : Nat) (b : DS) : List PyData → List PyData → Option (PyData × List PyData) := fun pd ds => if ds.length = n then outN n (b (startN N pd ds)) else none
section
variable {P : Program} {w : World} {K : PySem.W.Frag} {mg : Str → Option Value} {base : Heap}
theorem slAll_data {mu : Addr → Prop} {q : List Addr} {H : Hp} {σ : L2.St} {s : Sl} (r : SlAll K mu q H σ s []) : ∀ {vs : List V} {ds : List PyData}, DtAll K mu H vs ds → SlAll K mu q H (vs.map some ++ σ) (ds.map SV.dat ++ s) []
  | _, _, .nil => r
  | _, _, .cons h t => .dat h (slAll_data r t)
theorem nokN {F : NF} {f : Addr} {y : Str} {N ps : List Str} {k : Nat} {b : DS} (S : NScope N ps [y] F.scope) (hb : ∀ (doc pm ctv : Value) (us : List Value), us.length = ps.length → bindArgs (F.fd doc pm ctv) ⟨us, []⟩ = pure (ps.zip us))
    (body : ∀ (A : Around) (outer : List Env) (s : Shared) (H : Hp) (E : XK) (Z : Par), Room k (A.deeper (envF F f s.heap.objs.size)) → PSs (ncx CX0 P w K mg base N F f A outer s H E).nox F.body (lfS K Z b)) :
    NOk P w K mg base CX0 (k + 1) f F ps [y] (spN K (fnN N ps.length b)) := by
  refine nok_of S hb (fun ws vs H Q E h => ?_) fun A outer s H vs ws Q E hr _ _ _ h => ?_
  · obtain ⟨mu, p, xs, pd, ds, d, pd', _, _, _, _, _, h4, h5, _⟩ := h
    unfold fnN at h5
    split at h5
    · rename_i hl
      rw [h4.len]; exact hl
    · cases h5
  · obtain ⟨mu, p, xs, pd, ds, d, pd', rfl, h0, h1, h2, h3, h4, h5, h6⟩ := h
    unfold fnN at h5
    split at h5
    case isFalse => cases h5
    rename_i hl
    let Z : Par := ⟨H, [p], mu, by simp⟩
    refine ⟨_, (body A outer s H E Z hr).nox, [], startN N pd ds, ?_⟩
    have muE : ∀ a, Mu Z [] a → mu a := fun a q => by
      rcases q with q | q | q
      · exact q
      · rw [List.mem_singleton.mp q]; exact h0
      · cases q
    have kk : Kp mu H (Mu Z []) H := fun a o e n => ⟨e, fun z => n (muE a z)⟩
    have r : Rel K Z [] (startF N vs [some (.ref p)]) H (startN N pd ds) := by
      refine ⟨fun a o e _ => e, fun a ha => (by cases ha), h1, fun a ha => ⟨_, List.mem_singleton.mp ha ▸ h2⟩, ?_⟩
      unfold startN startF
      rw [h4.len]
      exact slAll_data (.pot rfl h2 (h3.mono kk) (slAll_nos _)) (h4.mono kk)
    have fin : ∀ {M : List Addr} {σ : L2.St} {H1 : Hp} {s1 : Sl} {pd1 : List PyData} {i : Nat}, Rel K Z M σ H1 s1 → s1[i]? = some (.pot 0 pd1) → ∃ xs1, H1 p = some (.lst xs1) ∧ DtAll K mu H1 xs1 pd1 := fun {M σ H1 s1 pd1 i} r1 e => by
      obtain ⟨a, xs1, _, e2, e3, e4⟩ := r1.sl.getPot e
      cases e2
      exact ⟨xs1, e3, e4.mono fun a o e n => ⟨e, fun z => n (.inl z)⟩⟩
    have bs : ∀ {M : List Addr} {σ : L2.St} {H1 : Hp} {s1 : Sl}, Rel K Z M σ H1 s1 → ∀ a o, H a = some o → a ≠ p → H1 a = some o := fun r1 a o e n => r1.base a o e (fun z => n (List.mem_singleton.mp z))
    unfold outN at h5
    split at h5
    · rename_i d1 s1 hq
      simp only [Option.map_eq_some_iff] at h5
      obtain ⟨pd1, hp, h5⟩ := h5
      cases h5
      refine ⟨_, r, hq, fun M σ H1 v k1 r1 t1 => ?_⟩
      obtain ⟨xs1, e1, e2⟩ := fin r1 (potOf_eq hp)
      exact h6 v H1 xs1 (bs r1) e1 e2 (t1.mono fun a o e n => ⟨e, fun z => n (.inl z)⟩)
    · rename_i s1 hq
      simp only [Option.map_eq_some_iff] at h5
      obtain ⟨pd1, hp, h5⟩ := h5
      cases h5
      refine ⟨_, r, hq, fun M σ H1 k1 r1 => ?_⟩
      obtain ⟨xs1, e1, e2⟩ := fin r1 (potOf_eq hp)
      exact h6 _ H1 xs1 (bs r1) e1 e2 .non
    · cases h5
end
/-! #### its call -/
def isRf (f : Addr) : Option SV → Bool
  | some (.rf a) => decide (a = f)
  | _ => false
theorem isRf_eq {f : Addr} {x : Option SV} (h : isRf f x = true) : x = some (.rf f) := by
  unfold isRf at h
  split at h
  · rw [of_decide_eq_true h]
  · cases h
theorem SlAll.getRf {K : PySem.W.Frag} {mu : Addr → Prop} {q : List Addr} {H : Hp} {f : Addr} {σ : L2.St} {s : Sl} {M : List Addr} (t : SlAll K mu q H σ s M) : ∀ {i : Nat}, s[i]? = some (.rf f) → σ[i]? = some (some (.ref f)) := by
  induction t with
  | nil => intro i e; simp at e
  | rf t ih => intro i e; cases i with
    | zero => simp at e; subst e; rfl
    | succ i => simpa using ih (by simpa using e)
  | dat h t ih => intro i e; cases i with
    | zero => simp at e
    | succ i => simpa using ih (by simpa using e)
  | no t ih => intro i e; cases i with
    | zero => simp at e
    | succ i => simpa using ih (by simpa using e)
  | own h d n t ih => intro i e; cases i with
    | zero => simp at e
    | succ i => simpa using ih (by simpa using e)
  | pot h0 h d t ih => intro i e; cases i with
    | zero => simp at e
    | succ i => simpa using ih (by simpa using e)
  | tab h0 h d w t ih => intro i e; cases i with
    | zero => simp at e
    | succ i => simpa using ih (by simpa using e)
  | dic h n t ih => intro i e; cases i with
    | zero => simp at e
    | succ i => simpa using ih (by simpa using e)
/-- g(..), g the own def at the slot i -/
def dRow (f : Addr) (i : Nat) (m : List PyData → List PyData → Option (PyData × List PyData)) (g : DA) : DE := fun s => if isRf f s[i]? = true then (g s).bind fun q => (potOf q.2[0]?).bind fun pd => (m pd q.1).map fun r => (r.1, setC q.2 0 r.2) else none
/-- what stands of the own def's function while the def runs -/
structure Made (Z : Par) (f p : Addr) (F : NF) : Prop where
  fn : Z.H0 f = some (FnO f F)
  code : Z.H0 F.c = some (LamX.CodeO F.c F.qual)
  nf : f ∉ Z.p
  nc : F.c ∉ Z.p
  pot : Z.p[0]? = some p
/-- where it may be called: what its cells hold is known there -/
def Sees (X : Cx) (cl : List (Str × Addr)) (y : Str) (p : Addr) : Prop := ∀ pins σ H s, Inv X pins σ H s → slotAt σ 0 = some (.ref p) → CellsAt cl [y] [some (.ref p)] s.heap H
section
variable {X : Cx} {Z : Par} {ga : DA} {f p : Addr} {F : NF} {y x : Str} {ps : List Str} {i j k : Nat} {m : List PyData → List PyData → Option (PyData × List PyData)} {e : Expr} {es : List Expr} {p0 pos : Pos}
theorem drow (G : Made Z f p F) (Fn : NOk X.prog X.w X.K X.mg X.base CX0 j f F ps [y] (spN X.K m)) (see : Sees X F.cl y p) (hr : Room k X.A) (hj : j ≤ k) (hN : X.N[i]? = some x) (hv : Vis X.env.scope x) (ha : PA X (e :: es) (lfA X.K Z ga)) (hx : Passes CX0 X E0 := by exact pass0)
    (hd : (x == ("__debug__" : Str)) = false := by decide) (hcd : (x == ("__classdict__" : Str)) = false := by decide)
    (he : starEach (e :: es) X.env = (false, eval e X.env) :: starEach es X.env := by rfl) (hpl : (backTo pos (starEach es X.env)).any (·.1) = false := by rfl) : PE X (.Call (.Name x p0) (e :: es) [] pos) (lft X.K Z (dRow f i m ga)) := by
  refine ⟨fun pins s σ H Q I h => ?_⟩
  obtain ⟨M, s0, d, s', rl, hf, k0⟩ := h
  unfold dRow at hf
  split at hf
  case isFalse => cases hf
  rename_i isf
  have atI : σ[i]? = some (some (.ref f)) := rl.sl.getRf (isRf_eq isf)
  simp only [Option.bind_eq_some_iff, Option.map_eq_some_iff] at hf
  obtain ⟨⟨ds, s1⟩, h1, pd, h2, ⟨d1, pd1⟩, h3, h4⟩ := hf
  cases h4
  have h2 := potOf_eq h2
  refine wpAny_Call_Name_kw (thn ((pe_var (pos := p0) hN hv hd hcd).run pins s σ H (fun v H1 => v = .ref f ∧ H1 = H) I ⟨.ref f, atI, rfl, rfl⟩) fun u s2 ⟨v, H1, I1, r1, q1⟩ => ?_)
  obtain ⟨ev, eH⟩ := q1
  subst ev
  rw [eH] at I1
  obtain rfl : u = Value.ref f := r1
  refine PySem.W.callWith_F (first := []) (fnAt_of I1 (rl.base _ _ G.fn G.nf)) (thn (ha.run pos pins s2 σ H (fun vs H2 => Kq Z M H M H2 ∧ Rel X.K Z M σ H2 s1 ∧ DtAll X.K (Mu Z M) H2 vs ds) I1 ⟨M, s0, ds, s1, rl, h1, fun vs H2 k2 r2 t2 => ⟨k2, r2, t2⟩⟩) fun us s3 ⟨vs, H2, I2, r, k2, r2, t2⟩ => ?_) he hpl
  have fH := r2.base _ _ G.fn G.nf
  have cH := r2.base _ _ G.code G.nc
  refine ⟨fnAt_of I2 fH, ?_⟩
  obtain ⟨a, xs, g1, g2, g3, g4⟩ := r2.sl.getPot h2
  rw [G.pot] at g2
  cases g2
  have slot : slotAt σ 0 = some (.ref p) := slotAt_of g1
  obtain ⟨a', xs', e1, e2, e3, e4, e5⟩ := r2.at (i := 0) (ds := pd) (by unfold contents; rw [h2])
  rw [g1] at e1
  cases e1
  rw [g3] at e2
  cases e2
  show wpAny _ _ (call (.ref f) us) _ _ _
  refine run_n (mk := fun _ => F) (js := [0]) (sp := fun _ _ => spN X.K m) (c' := F.c) Fn hr hj hx I2 fH cH (by rw [show ([0].map (slotAt σ)) = [some (.ref p)] from by rw [List.map_singleton, slot]]; exact see pins σ H2 s3 I2 slot) r ?_
  refine ⟨Mu Z M, p, xs, pd, ds, _, pd1, by rw [List.map_singleton, slot], e4, r2.muT, g3, e3, t2, h3, fun v H3 xs2 a1 a2 t3 t4 => ?_⟩
  obtain ⟨r3, k3⟩ := e5 H3 xs2 pd1 a2 a1 t3
  exact k0 v H3 (k2.trans k3) r3 t4
end
theorem Made.to {Z Z' : Par} {f p : Addr} {F : NF} (G : Made Z f p F) (h0 : Z'.H0 = Z.H0) (hp : Z'.p = Z.p) : Made Z' f p F := ⟨by rw [h0]; exact G.fn, by rw [h0]; exact G.code, by rw [hp]; exact G.nf, by rw [hp]; exact G.nc, by rw [hp]; exact G.pot⟩
/-- in the def that makes it -/
theorem sees_def {X : Cx} {nsc : Scope} {y : Str} {p : Addr} (hfree : ∀ z ∈ nsc.names, z.2 = .free → X.env.scope.names.lookup z.1 = some .cell ∨ X.env.scope.names.lookup z.1 = some .free) (hy : (y, NameKind.free) ∈ nsc.names) (h0 : X.N[0]? = some y) : Sees X (cloFrom X.env.cells nsc.names []) y p := fun pins σ H s I slot => by
  have q := cells_of (js := [0]) I (Caps.made (fr := [y]) I.ok hfree (fun z hz => by rw [List.mem_singleton.mp hz]; exact hy) (by rw [List.map_singleton, h0]; rfl))
  rw [List.map_singleton, slot] at q
  exact q
theorem clo_sub {X : Cx} {nsc : Scope} (hfree : ∀ z ∈ nsc.names, z.2 = .free → X.env.scope.names.lookup z.1 = some .cell ∨ X.env.scope.names.lookup z.1 = some .free) (ok : X.Ok) : ∀ z c, (cloFrom X.env.cells nsc.names []).lookup z = some c → X.env.cells.lookup z = some c := fun z c e =>
  clo_cm (fun y hy k => (hfree y hy k).elim (fun z => ok.has _ (.inl z)) fun z => ok.has _ (.inr z)) e
theorem clo_away {X : Cx} {nsc : Scope} (hfree : ∀ z ∈ nsc.names, z.2 = .free → X.env.scope.names.lookup z.1 = some .cell ∨ X.env.scope.names.lookup z.1 = some .free) (hfn : ∀ z, X.fn z = true) : ∀ pins σ H s, Inv X pins σ H s → ∀ z c, (cloFrom X.env.cells nsc.names []).lookup z = some c → c ∉ frs X.stack := fun pins σ H s I z c e m => by
  have at_ := clo_sub hfree I.ok z c e
  rcases List.mem_cons.mp (I.stkSub c m) with k | k
  · obtain ⟨v, o, h1, h2⟩ := I.cell z c at_
    obtain ⟨mm, ⟨o', es, n, h3, h4, _⟩, _⟩ := I.loc
    rw [k, h3] at h1
    cases h1
    rw [h4] at h2
    cases h2
  · obtain ⟨_, o, h1, _⟩ := I.ok.funs.mem k
    exact absurd (Nat.lt_of_lt_of_le (Heap.lt_size h1) (I.ok.cab z c (hfn z) at_)) (Nat.lt_irrefl _)
/-! #### a comprehension in which it is called -/
def isPot0 : Option SV → Bool
  | some (.pot 0 _) => true
  | _ => false
theorem isPot0_eq {x : Option SV} (h : isPot0 x = true) : ∃ pd, x = some (.pot 0 pd) := by
  unfold isPot0 at h
  split at h
  · exact ⟨_, rfl⟩
  · cases h
def fPot (ff : DF) : DF := fun s => if isPot0 s[0]? = true then ff s else none
section
variable {X : Cx} {Z : Par} {fa : DE} {ff : DF} {cl : List (Str × Addr)} {y : Str} {p : Addr}
theorem flcTie {elt iter : Expr} {x : Str} {px pos : Pos} {scope : Scope} {j : Nat} (hc : X.calm = true) (hN : X.N.Nodup) (hi : PI X (.Name x px) iter (lfI X.K Z ff)) (ok : BlkOk X.N X.env.scope scope [(x, j)])
    (see : Sees X cl y p) (sub : X.Ok → ∀ z c, cl.lookup z = some c → X.env.cells.lookup z = some c) (away : ∀ pins σ H s, Inv X pins σ H s → ∀ z c, cl.lookup z = some c → c ∉ frs X.stack) (hp : Z.p[0]? = some p)
    (hg : ∀ (s : Shared) (H : Hp) (C : Addr) (l : List (Str × Addr)) (fp : List Addr), PG (X.blk s H scope (compEnvC scope l C X.env) fp) (.Name x px) (gName j))
    (he : ∀ (s : Shared) (H : Hp) (C : Addr) (l : List (Str × Addr)) (fp : List Addr) (Z' : Par), Z'.H0 = Z.H0 → Z'.p = Z.p → Sees (X.blk s H scope (compEnvC scope l C X.env) fp) cl y p → PE (X.blk s H scope (compEnvC scope l C X.env) fp) elt (lft X.K Z' fa)) (hs : ∀ x, foldedSetIterable iter X.env x = pure x := by intro _; rfl) :
    PE X (.ListComp elt [⟨.Name x px, iter, [], 0⟩] scope pos) (lfF X.K Z (fPot (fLc ff j tYesD fa))) := by
  refine PEimp (pe_lcTie (Cσ := fun σ => slotAt σ 0 = some (.ref p)) (te := fun σ H Q => ∃ Z', Z'.H0 = Z.H0 ∧ Z'.p = Z.p ∧ lft X.K Z' fa σ H Q) hc hN hi ok see sub away hg
    (fun s H0 C l fp tie => ⟨fun pins s' σ H Q I ⟨Z', z1, z2, q⟩ => (he s H0 C l fp Z' z1 z2 fun pins σ H s I _ => tie.later I).run pins s' σ H Q I q⟩) hs) fun σ H Q h => ?_
  obtain ⟨M, s, ds, s', rl, hf, k⟩ := h
  unfold fPot at hf
  split at hf
  case isFalse => cases hf
  rename_i ok0
  obtain ⟨pd, e0⟩ := isPot0_eq ok0
  obtain ⟨a, xs, g1, g2, _⟩ := rl.sl.getPot e0
  rw [hp] at g2
  cases g2
  exact ⟨slotAt_of g1, lift_lc (fun D σ H Q ⟨M, s, c, s', rl, hf, k⟩ => by
    cases hf
    exact k H (Kq.refl _ _ _) rl) (fun D _ _ _ q => ⟨Z.add D, rfl, rfl, q⟩) ⟨M, s, ds, s', rl, hf, k⟩⟩
end
end Dl

/-! ### a def that changes the list handed in first and its own table of code objects -/
namespace Dl
open PySem PySem.Spec PyProof.Rows L2 NdefX
def spMT (K : PySem.W.Frag) (T : Addr) (q : Str) (m : List PyData → List PyData → Option (PyData × List PyData)) : Sp := fun vs H Q _ => ∃ mu p xs pd rest ds d pd', vs = .ref p :: rest ∧ p ≠ T ∧ mu p ∧ mu T ∧ (∀ a, mu a → ∃ o, H a = some o) ∧ H p = some (.lst xs) ∧ Tabl H T q (fun c => ¬ mu c) ∧ DtAll K mu H xs pd ∧ DtAll K mu H rest ds ∧
  m pd ds = some (d, pd') ∧ ∀ v H' xs', (∀ a o, H a = some o → a ≠ p → a ≠ T → H' a = some o) → H' p = some (.lst xs') → Tabl H' T q (fun c => ¬ mu c) → DtAll K mu H' xs' pd' → Dt K mu H' v d → Q v H'
/-- f(x, ..), x a list that f may change, f's table at the place j -/
def dCallMT (j : Nat) (q : Str) (m : List PyData → List PyData → Option (PyData × List PyData)) (i : Nat) (g : DA) : DE := fun s => (contents s i).bind fun _ => (g s).bind fun p => (contents p.2 i).bind fun pd => if okTab p.2 j q = true then (m pd p.1).map fun r => (r.1, setC p.2 i r.2) else none
section
variable {K : PySem.W.Frag} {mu mu' : Addr → Prop} {H H' : Hp} {p : List Addr} {Z : Par} {M M' : List Addr} {σ : L2.St} {s : Sl} {q : Str}
theorem Rel.reTab {j : Nat} {T : Addr} {ps0 : Array Value} (rl : Rel K Z M σ H s) (hZ : Z.p[j]? = some T) (was : H T = some (.tbl ps0)) (stays : ∀ b o, b ≠ T → H b = some o → H' b = some o) (now : Tabl H' T q (fun c => ¬ Mu Z M c)) (ok : okTab s j q = true) : Rel K Z M σ H' s ∧ Kq Z M H M H' := by
  have hZm := List.mem_of_getElem? hZ
  unfold okTab at ok
  rw [Bool.and_eq_true] at ok
  have nM : ∀ a ∈ M, a ≠ T := fun a ha e => (rl.fr a ha).2.1 (by rw [e]; exact hZm)
  have nmu : ∀ a, ¬ Mu Z M a → a ≠ T := fun a n e => n (.inr (.inl (by rw [e]; exact hZm)))
  have kk : Kp (Mu Z M) H (Mu Z M) H' := fun a o e n => ⟨stays a o (nmu a n) e, n⟩
  have there : ∀ a o, H a = some o → ∃ u, H' a = some u := fun a o e => by
    by_cases z : a = T
    · obtain ⟨ps, g1, _⟩ := now
      exact ⟨_, by rw [z]; exact g1⟩
    · exact ⟨o, stays a o z e⟩
  refine ⟨⟨fun a o e n => stays a o (fun z => n (by rw [z]; exact hZm)) (rl.base a o e n), fun a ha => ?_, fun a ha => let ⟨o, e⟩ := rl.mz a ha; there a o e, fun a ha => let ⟨o, e⟩ := rl.pt a ha; there a o e, SlAll.reTab hZ was stays nM kk now rl.sl (fun _ h => h) ok.2⟩,
    fun a o e n1 n2 => ⟨stays a o (fun z => n1 (by rw [z]; exact hZm)) e, n2⟩⟩
  obtain ⟨f1, f2, f3, o, f4⟩ := rl.fr a ha
  exact ⟨f1, f2, f3, there a o f4⟩
end
section
variable {X : Cx} {Z : Par} {a b e : Expr} {es : List Expr} {pos : Pos} {ga : DA} {k j : Nat} {f T : Addr} {fd : FuncData} {ps : List Str} {x q : Str} {p : Pos} {E : XK} {m : List PyData → List PyData → Option (PyData × List PyData)}
theorem lift_callMT {K : PySem.W.Frag} {i : Nat} {σ : L2.St} {H : Hp} {Q : VK} (hZ : Z.p[j]? = some T) (h : lft K Z (dCallMT j q m i ga) σ H Q) : tCall (spMT K T q m) [] E (tCons (tVar i) (lfA K Z ga)) σ H Q := by
  obtain ⟨M, s, d, s', rl, hf, k⟩ := h
  unfold dCallMT at hf
  simp only [Option.bind_eq_some_iff] at hf
  obtain ⟨pd0, h0, ⟨ds, s1⟩, h1, pd, h2, h3⟩ := hf
  dsimp only at h2 h3
  split at h3
  case isFalse => cases h3
  rename_i ok
  simp only [Option.map_eq_some_iff] at h3
  obtain ⟨⟨d1, pd1⟩, h3, h4⟩ := h3
  cases h4
  obtain ⟨a0, xs0, g1, _⟩ := rl.at h0
  refine ⟨.ref a0, g1, M, s, ds, s1, rl, h1, fun vs H1 k1 r1 t1 => ?_⟩
  show spMT K T q m ((V.ref a0 :: vs) ++ []) H1 Q E
  rw [List.append_nil]
  obtain ⟨a1, xs, e1, e2, e3, e4, e5⟩ := r1.at h2
  rw [g1] at e1
  cases e1
  have ok' := ok
  unfold okTab at ok'
  rw [Bool.and_eq_true] at ok'
  obtain ⟨T', eT, tab⟩ := r1.sl.tabAt ok'.1
  rw [hZ] at eT
  cases eT
  have tab' := tab
  obtain ⟨ps0, was, tr0, codes0⟩ := tab'
  have ne : a0 ≠ T := fun z => by rw [z, was] at e2; cases e2
  have muT : Mu Z M T := .inr (.inl (List.mem_of_getElem? hZ))
  refine ⟨Mu Z M, a0, xs, pd, vs, ds, _, pd1, rfl, ne, e4, muT, r1.muT, e2, tab, e3, t1, h3, fun v H2 xs2 g2 g3 g4 t2 t3 => ?_⟩
  -- in between: the table grown, the list as it was
  let H3 : Hp := upd H2 a0 (.lst xs)
  have at0 : H3 a0 = some (.lst xs) := upd_same
  have stays : ∀ b o, b ≠ T → H1 b = some o → H3 b = some o := fun b o n e => by
    by_cases z : b = a0
    · subst z
      rw [e2] at e
      cases e
      exact at0
    · exact (upd_ne z).trans (g2 b o e z n)
  have tab3 : Tabl H3 T q (fun c => ¬ Mu Z M c) := by
    obtain ⟨ps1, b1, b2, b3⟩ := g4
    refine ⟨ps1, (upd_ne ne.symm).trans b1, b2, fun pos cv z => ?_⟩
    obtain ⟨c, c1, c2, c3⟩ := b3 pos cv z
    exact ⟨c, c1, (upd_ne (fun w => c3 (by rw [w]; exact e4))).trans c2, c3⟩
  obtain ⟨r3, k3⟩ := r1.reTab hZ was stays tab3 ok
  obtain ⟨a3, xs3, m1, m2, m3, m4, m5⟩ := r3.at h2
  rw [g1] at m1
  cases m1
  obtain ⟨r4, k4⟩ := m5 H2 xs2 pd1 g3 (fun c o e n => by rwa [show H3 c = H2 c from upd_ne n] at e) t2
  exact k v H2 (k1.trans (k3.trans k4)) r4 t3
theorem dclMT (i : Nat) (c : Cal X.prog X.w X.K X.mg X.base j x ps (spMT X.K T q m)) {jz : Nat} (hZ : Z.p[jz]? = some T) (hr : Room k X.A) (hj : j ≤ k) (hg : Gl X x) (h1 : PE X e (tVar i)) (ha : PA X es (lfA X.K Z ga)) (hx : Passes CX0 X E0 := by exact pass0)
    (hdb : (x == ("__debug__" : Str)) = false := by decide) (he : starEach (e :: es) X.env = (false, eval e X.env) :: starEach es X.env := by rfl) (hpl : (backTo pos (starEach es X.env)).any (·.1) = false := by rfl) :
    PE X (.Call (.Name x p) (e :: es) [] pos) (lft X.K Z (dCallMT jz q m i ga)) := by
  obtain ⟨f, fd, F, hm, hk, hb⟩ := c
  exact PEimp (pe_call (F.mono hj) hr hg hm hk hb .nil hx (pa_cons h1 ha he) hdb he hpl) fun _ _ _ h => lift_callMT hZ h
end
/-- its code object, as the head has it -/
theorem code_at {K : PySem.W.Frag} {mg : Str → Option Value} {x : Str} {st : Stmt} (hm : mg x = some (.ref (He.fAd K (x, none)))) : ∀ f fd, mg x = some (.ref f) → Fun K x x st f fd → fd.code = .ref (He.codeOf K (x, none)) := fun f fd m F => by
  obtain rfl : f = He.fAd K (x, none) := Value.ref.inj (Option.some.inj (m.symm.trans hm))
  obtain ⟨⟨oc, od, kV, doc, pm, an, cdv, ct, osl, e1, lk, hcd⟩, kp⟩ := F
  obtain ⟨c, hc⟩ := He.codeIn_ref hcd
  have e : fd.code = .ref c := by subst e1; exact hc
  rw [He.codeOf_eq lk e]
  exact e
/-! #### the def, by its body -/
def startMT (N : List Str) (q : Str) (pd ds : List PyData) : Sl := SV.pot 0 pd :: (ds.map SV.dat ++ (List.replicate (N.length - 2 - ds.length) .no ++ [.tab 1 q]))
section
variable {P : Program} {w : World} {K : PySem.W.Frag} {mg : Str → Option Value} {base : Heap}
/-- what is known at the def's entry; the body's word at it -/
theorem calMT0 {x : Str} {st : Stmt} {N ps : List Str} {k : Nat} {c T : Addr} {q : Str} {m : List PyData → List PyData → Option (PyData × List PyData)} (F : Std K mg x st ps) (S : FnScope N ps (defScope st)) (hc : ∀ f fd, mg x = some (.ref f) → Fun K x x st f fd → fd.code = .ref c) (len : ∀ pd ds r, m pd ds = some r → ds.length + 1 = ps.length)
    (body : ∀ (f : Addr) (A : Around) (outer : List Env) (s : Shared) (H : Hp) (E : XK) (mu : Addr → Prop) (p : Addr) (xs : List V) (pd : List PyData) (rest : List V) (ds : List PyData) (d : PyData) (pd' : List PyData) (Q : VK), Room k (A.deeper (envOfC x (defScope st) s.heap.objs.size f (.ref c))) → p ≠ T → mu p → mu T → (∀ a, mu a → ∃ o, H a = some o) → H p = some (.lst xs) → Tabl H T q (fun c => ¬ mu c) → DtAll K mu H xs pd → DtAll K mu H rest ds → m pd ds = some (d, pd') →
      (∀ v H' xs', (∀ a o, H a = some o → a ≠ p → a ≠ T → H' a = some o) → H' p = some (.lst xs') → Tabl H' T q (fun c => ¬ mu c) → DtAll K mu H' xs' pd' → Dt K mu H' v d → Q v H') →
      ∃ t, PSs (cxOf CX0 P w K mg base N x (defScope st) f (.ref c) A outer s H E).nox (defBody st) t ∧ t { nx := fun _ H' => Q .non H', rt := Q } (start N (.ref p :: rest)) H) :
    Cal P w K mg base (k + 1) x ps (spMT K T q m) := by
  obtain ⟨f, fd, Fn, hm, hb⟩ := F
  have kp := Fn.kp
  have e := hc f fd hm Fn
  refine ⟨f, fd, ?_, hm, kp, hb⟩
  obtain ⟨⟨oc, od, kV, doc, pm, an, cdv, ct, osl, e1, lk, hcd⟩, _⟩ := Fn
  subst e1
  have e2 : cdv = .ref c := e
  subst e2
  refine fn_of lk hcd S (fun vs H Q E h => ?_) fun A outer s H vs Q E hr h => ?_
  · obtain ⟨mu, p, xs, pd, rest, ds, d, pd', rfl, hne, h0, h0', h1, h2, h2', h3, h4, h5, h6⟩ := h
    rw [List.length_cons, h4.len]
    exact len _ _ _ h5
  · obtain ⟨mu, p, xs, pd, rest, ds, d, pd', rfl, hne, h0, h0', h1, h2, h2', h3, h4, h5, h6⟩ := h
    obtain ⟨t, b1, b2⟩ := body f A outer s H E mu p xs pd rest ds d pd' Q hr hne h0 h0' h1 h2 h2' h3 h4 h5 h6
    exact ⟨t, b1.nox, b2⟩
/-- .. its names told as those of a def that changes a list, the table last -/
theorem calMT {x : Str} {st : Stmt} {N ps : List Str} {k : Nat} {c T : Addr} {q : Str} {b : DS} (F : Std K mg x st ps) (S : FnScope N ps (defScope st)) (hc : ∀ f fd, mg x = some (.ref f) → Fun K x x st f fd → fd.code = .ref c) (hN : ps.length < N.length)
    (hb : ∀ (f : Addr) (A : Around) (outer : List Env) (s : Shared) (H : Hp) (E : XK) (Z : Par), Z.p[1]? = some T → Room k (A.deeper (envOfC x (defScope st) s.heap.objs.size f (.ref c))) → PSs (cxOf CX0 P w K mg base N x (defScope st) f (.ref c) A outer s H E).nox (defBody st) (lfS K Z b)) :
    Cal P w K mg base (k + 1) x ps (spMT K T q (fun pd ds => if ds.length + 1 = ps.length then (if okTab (startMT N q pd ds) 1 q = true then (match b (startMT N q pd ds) with
      | some (.rt d s) => if okTab s 1 q = true then (potOf s[0]?).map fun pd => (d, pd) else none
      | some (.nx s) => if okTab s 1 q = true then (potOf s[0]?).map fun pd => (.none, pd) else none
      | _ => none) else none) else none)) := by
  refine calMT0 F S hc (fun pd ds r h => ?_) fun f A outer s H E mu p xs pd rest ds d pd' Q hr hne h0 h0' h1 h2 h2' h3 h4 h5 h6 => ?_
  · split at h
    · assumption
    · cases h
  · split at h5
    case isFalse => cases h5
    rename_i hl
    split at h5
    case isFalse => cases h5
    let Z : Par := ⟨H, [p, T], mu, by simpa using hne⟩
    refine ⟨_, hb f A outer s H E Z rfl hr, ?_⟩
    have inn : ∀ {a}, a ∈ Z.p → a = p ∨ a = T := fun {a} h => by simpa [Z] using h
    have muE : ∀ a, Mu Z [] a → mu a := fun a z => by
      rcases z with z | z | z
      · exact z
      · rcases inn z with e | e
        · rw [e]; exact h0
        · rw [e]; exact h0'
      · cases z
    have kk : Kp mu H (Mu Z []) H := fun a o e n => ⟨e, fun z => n (muE a z)⟩
    have tb := h2'
    obtain ⟨ps0, was, tr0, codes0⟩ := tb
    have r : Rel K Z [] (start N (.ref p :: rest)) H (startMT N q pd ds) := by
      refine ⟨fun a o e _ => e, fun a ha => (by cases ha), h1, fun a ha => ?_, ?_⟩
      · rcases inn ha with e | e
        · exact ⟨_, e ▸ h2⟩
        · exact ⟨_, e ▸ was⟩
      have e : start N (.ref p :: rest) = some (.ref p) :: (rest.map some ++ (List.replicate (N.length - 2 - ds.length) none ++ [none])) := by
        unfold L2.start
        rw [List.map_cons, List.length_cons, h4.len, List.cons_append]
        congr 2
        rw [← List.replicate_succ']
        congr 1
        omega
      rw [e]
      unfold startMT
      refine .pot (i := 0) rfl h2 (h3.mono kk) (slAll_data ?_ (h4.mono kk))
      have last : SlAll K (Mu Z []) Z.p H [none] [.tab 1 q] [] := .tab (i := 1) rfl was tr0 (fun pos cv z => let ⟨c, c1, c2, c3⟩ := codes0 pos cv z; ⟨c, c1, c2, fun w => c3 (muE c w)⟩) .nil
      generalize N.length - 2 - ds.length = n
      induction n with
      | zero => exact last
      | succ n ih => exact .no ih
    have fin : ∀ {M : List Addr} {σ : L2.St} {H1 : Hp} {s1 : Sl} {z : List PyData}, Rel K Z M σ H1 s1 → okTab s1 1 q = true → potOf s1[0]? = some z → ∃ xs1, H1 p = some (.lst xs1) ∧ DtAll K mu H1 xs1 z ∧ Tabl H1 T q (fun c => ¬ mu c) := fun {M σ H1 s1 z} r1 ok e => by
      obtain ⟨a, xs1, _, g2, g3, g4⟩ := r1.sl.getPot (potOf_eq e)
      cases g2
      unfold okTab at ok
      rw [Bool.and_eq_true] at ok
      obtain ⟨T', eT, tab⟩ := r1.sl.tabAt ok.1
      cases eT
      obtain ⟨ps1, b1, b2, b3⟩ := tab
      exact ⟨xs1, g3, g4.mono fun a o e n => ⟨e, fun z => n (.inl z)⟩, ps1, b1, b2, fun pos cv z => let ⟨c, c1, c2, c3⟩ := b3 pos cv z; ⟨c, c1, c2, fun w => c3 (.inl w)⟩⟩
    have bs : ∀ {M : List Addr} {σ : L2.St} {H1 : Hp} {s1 : Sl}, Rel K Z M σ H1 s1 → ∀ a o, H a = some o → a ≠ p → a ≠ T → H1 a = some o := fun r1 a o e n n' => r1.base a o e (fun z => (inn z).elim n n')
    split at h5
    · rename_i d1 s1 hq
      split at h5
      case isFalse => cases h5
      rename_i ok
      simp only [Option.map_eq_some_iff] at h5
      obtain ⟨z, hp, h5⟩ := h5
      cases h5
      refine ⟨[], _, _, r, hq, fun M σ H1 v k1 r1 t1 => ?_⟩
      obtain ⟨xs1, e1, e2, e3⟩ := fin r1 ok hp
      exact h6 v H1 xs1 (bs r1) e1 e3 e2 (t1.mono fun a o e n => ⟨e, fun z => n (.inl z)⟩)
    · rename_i s1 hq
      split at h5
      case isFalse => cases h5
      rename_i ok
      simp only [Option.map_eq_some_iff] at h5
      obtain ⟨z, hp, h5⟩ := h5
      cases h5
      refine ⟨[], _, _, r, hq, fun M σ H1 k1 r1 => ?_⟩
      obtain ⟨xs1, e1, e2, e3⟩ := fin r1 ok hp
      exact h6 _ H1 xs1 (bs r1) e1 e3 e2 .non
    · cases h5
end
/-! #### a def that makes a def of its own, and then does the rest with it -/
theorem SlAll.putRf {K : PySem.W.Frag} {mu : Addr → Prop} {q : List Addr} {H : Hp} {f : Addr} {σ : L2.St} {s : Sl} {M : List Addr} (t : SlAll K mu q H σ s M) : ∀ i : Nat, s[i]? = some .no → SlAll K mu q H (σ.set i (some (.ref f))) (s.set i (.rf f)) M := by
  induction t with
  | nil => intro i e; simp at e
  | no t ih => intro i e; cases i with
    | zero => exact .rf t
    | succ i => exact .no (ih i (by simpa using e))
  | rf t ih => intro i e; cases i with
    | zero => simp at e
    | succ i => exact .rf (ih i (by simpa using e))
  | dat h t ih => intro i e; cases i with
    | zero => simp at e
    | succ i => exact .dat h (ih i (by simpa using e))
  | own h d n t ih => intro i e; cases i with
    | zero => simp at e
    | succ i => exact .own h d n (ih i (by simpa using e))
  | pot h0 h d t ih => intro i e; cases i with
    | zero => simp at e
    | succ i => exact .pot h0 h d (ih i (by simpa using e))
  | tab h0 h d w t ih => intro i e; cases i with
    | zero => simp at e
    | succ i => exact .tab h0 h d w (ih i (by simpa using e))
  | dic h n t ih => intro i e; cases i with
    | zero => simp at e
    | succ i => exact .dic h n (ih i (by simpa using e))
section
variable {P : Program} {w : World} {K : PySem.W.Frag} {mg : Str → Option Value} {base : Heap}
theorem start_tab {mu : Addr → Prop} {Hx : Hp} {p T : Addr} {N : List Str} {q : Str} {xs : List V} {pd ds : List PyData} {rest : List V} {ps0 : Array Value} (hl : ds.length + 2 ≤ N.length) (h2 : Hx p = some (.lst xs)) (h3 : DtAll K mu Hx xs pd) (h4 : DtAll K mu Hx rest ds) (was : Hx T = some (.tbl ps0)) (tr : TriplesOk ps0.toList)
    (codes : ∀ (pos : Pos) (cv : Value), codeAmong pos ps0.toList = some cv → ∃ c, cv = .ref c ∧ Hx c = some (LamX.CodeO c q) ∧ ¬ mu c) : SlAll K mu [p, T] Hx (start N (.ref p :: rest)) (startMT N q pd ds) [] := by
  have e : start N (.ref p :: rest) = some (.ref p) :: (rest.map some ++ (List.replicate (N.length - 2 - ds.length) none ++ [none])) := by
    unfold L2.start
    rw [List.map_cons, List.length_cons, h4.len, List.cons_append]
    congr 2
    rw [← List.replicate_succ']
    congr 1
    omega
  rw [e]
  unfold startMT
  refine .pot (i := 0) rfl h2 h3 (slAll_data ?_ h4)
  have last : SlAll K mu [p, T] Hx [none] [.tab 1 q] [] := .tab (i := 1) rfl was tr codes .nil
  generalize N.length - 2 - ds.length = n
  induction n with
  | zero => exact last
  | succ n ih => exact .no ih
theorem calT {x y name : Str} {st nst : Stmt} {N ps : List Str} {k i : Nat} {c T : Addr} {q : Str} {rest : List Stmt} {m : List PyData → List PyData → Option (PyData × List PyData)} {b : Addr → DS} {pos : Pos}
    (F : Std K mg x st ps) (S : FnScope N ps (defScope st)) (hc : ∀ f fd, mg x = some (.ref f) → Fun K x x st f fd → fd.code = .ref c) (TB : LamX.TabB base mg c T) (hst : defBody st = nst :: rest)
    (hn : nst = .FunctionDef name (C8.fnArgs nst) (C8.fnBody nst) [] none [] (C8.fnScope nst) none name pos) (hq : q = x ++ ".<locals>." ++ name) (hi : N[i]? = some name) (hloc : (defScope st).names.lookup name = some .local ∨ (defScope st).names.lookup name = some .cell)
    (hfree : ∀ z ∈ (C8.fnScope nst).names, z.2 = .free → (defScope st).names.lookup z.1 = some .cell ∨ (defScope st).names.lookup z.1 = some .free) (hy : (y, NameKind.free) ∈ (C8.fnScope nst).names) (h0 : N[0]? = some y) (hd0 : (C8.fnArgs nst).defaults = []) (hk0 : (C8.fnArgs nst).kw_defaults = [])
    (ann : ∀ env, annTrees (C8.fnArgs nst) none env = [])
    (hm : ∀ pd ds d pd', m pd ds = some (d, pd') → ds.length + 1 = ps.length ∧ ds.length + 2 ≤ N.length ∧ (startMT N q pd ds)[i]? = some .no ∧ ∀ f, ∃ s', b f ((startMT N q pd ds).set i (.rf f)) = some (.rt d s') ∧ okTab s' 1 q = true ∧ potOf s'[0]? = some pd')
    (hrest : ∀ (X : Cx) (f p c' : Addr) (Z : Par), Made Z f p (NF.of nst name q (cloFrom X.env.cells (C8.fnScope nst).names []) c') → Sees X (cloFrom X.env.cells (C8.fnScope nst).names []) y p → (X.Ok → ∀ z c, (cloFrom X.env.cells (C8.fnScope nst).names []).lookup z = some c → X.env.cells.lookup z = some c) →
      (∀ pins σ H s, Inv X pins σ H s → ∀ z c, (cloFrom X.env.cells (C8.fnScope nst).names []).lookup z = some c → c ∉ frs X.stack) → (∃ (g : Addr) (A : Around) (outer : List Env) (s : Shared) (H : Hp) (E : XK), X = (cxOf CX0 P w K mg base N x (defScope st) g (.ref c) A outer s H E).nox ∧ Room k X.A) → PSs X rest (lfS K Z (b f))) :
    Cal P w K mg base (k + 1) x ps (spMT K T q m) := by
  refine calMT0 F S hc (fun pd ds r h => (hm pd ds r.1 r.2 h).1) fun g A outer s H E mu p xs pd vs ds d pd' Q hr hne h0' h0'' h1 h2 h2' h3 h4 h5 h6 => ?_
  obtain ⟨hl, hl2, hno, hb⟩ := hm pd ds d pd' h5
  rw [hst]
  have X0 : (cxOf CX0 P w K mg base N x (defScope st) g (.ref c) A outer s H E).nox.env.scope = defScope st := rfl
  refine ⟨_, pss_cons (ps_ndefT (i := i) (q := q) (P := T) (c := c) hn TB rfl (by rw [hq]; rfl) hfree hd0 hk0 (ann _) S.nd hi hloc (.inl rfl)) (u := fun D σ Hh => ∃ f c' Z, Made Z f p (NF.of nst name q (cloFrom (cxOf CX0 P w K mg base N x (defScope st) g (.ref c) A outer s H E).nox.env.cells (C8.fnScope nst).names []) c') ∧ lfS K Z (b f) D σ Hh)
    ⟨fun pins s' σ H' D I ⟨f, c', Z, G, r⟩ => (hrest _ f p c' Z G (sees_def hfree hy h0) (clo_sub hfree) (clo_away hfree fun _ => rfl) ⟨g, A, outer, s, H, E, rfl, hr⟩).run pins s' σ H' D I r⟩, ?_⟩
  refine ⟨fun c => ¬ mu c, h2', fun f c' H1 stays tab1 f0 f1 c1 => ?_⟩
  have atp : H1 p = some (.lst xs) := stays _ _ hne h2
  obtain ⟨ps1, b1, b2, b3⟩ := tab1
  have tb := h2'
  obtain ⟨ps0, was, _, _⟩ := tb
  let Z : Par := ⟨H1, [p, T], mu, by simpa using hne⟩
  have inn : ∀ {a}, a ∈ Z.p → a = p ∨ a = T := fun {a} h => by simpa [Z] using h
  have muE : ∀ a, Mu Z [] a → mu a := fun a z => by
    rcases z with z | z | z
    · exact z
    · rcases inn z with e | e
      · rw [e]; exact h0'
      · rw [e]; exact h0''
    · cases z
  have kk : Kp mu H (Mu Z []) H1 := fun a o e n => ⟨stays a o (fun z => n (by rw [z]; exact h0'')) e, fun z => n (muE a z)⟩
  have notin : ∀ {a}, H1 a ≠ some (.lst xs) → (∀ ps, H1 a ≠ some (.tbl ps)) → a ∉ Z.p := fun {a} n1 n2 m => (inn m).elim (fun e => n1 (e ▸ atp)) fun e => n2 _ (e ▸ b1)
  refine ⟨f, c', Z, ⟨f1, c1, notin (fun e => ?_) fun ps e => ?_, notin (fun e => ?_) fun ps e => ?_, rfl⟩, ?_⟩
  · rw [f1] at e; cases e
  · rw [f1] at e; exact fnO_ne ps (Option.some.inj e)
  · have e : H1 c' = some (.lst xs) := e
    rw [c1] at e; cases e
  · have e : H1 c' = some (.tbl ps) := e
    rw [c1] at e; exact LamX.codeO_ne ps (Option.some.inj e)
  · obtain ⟨s', e1, e2, e3⟩ := hb f
    have r : Rel K Z [] ((start N (.ref p :: vs)).set i (some (.ref f))) H1 ((startMT N q pd ds).set i (.rf f)) := by
      refine ⟨fun a o e _ => e, fun a ha => (by cases ha), fun a ha => ?_, fun a ha => ?_, SlAll.putRf ?_ i hno⟩
      · by_cases z : a = T
        · exact ⟨_, z ▸ b1⟩
        · obtain ⟨o, e⟩ := h1 a ha
          exact ⟨o, stays a o z e⟩
      · rcases inn ha with e | e
        · exact ⟨_, e ▸ atp⟩
        · exact ⟨_, e ▸ b1⟩
      · refine start_tab hl2 atp (h3.mono kk) (h4.mono kk) b1 b2 fun pos cv z => ?_
        obtain ⟨c2, g1, g2, g3⟩ := b3 pos cv z
        refine ⟨c2, g1, g2, fun w => ?_⟩
        have w := muE _ w
        rcases g3 with g3 | g3
        · exact g3 w
        · obtain ⟨o, e⟩ := h1 _ w
          rw [g3] at e; cases e
    refine ⟨[], _, _, r, e1, fun M σ H2 v k1 r1 t1 => ?_⟩
    obtain ⟨a, xs2, _, a2, a3, a4⟩ := r1.sl.getPot (potOf_eq e3)
    cases a2
    have ok := e2
    unfold okTab at ok
    rw [Bool.and_eq_true] at ok
    obtain ⟨T', eT, ps2, d1, d2, d3⟩ := r1.sl.tabAt ok.1
    cases eT
    refine h6 v H2 xs2 (fun a o e n n' => r1.base a o (stays a o n' e) fun z => (inn z).elim n n') a3 ⟨ps2, d1, d2, fun pos cv z => let ⟨c, c1, c2, c3⟩ := d3 pos cv z; ⟨c, c1, c2, fun w => c3 (.inl w)⟩⟩ (a4.mono fun a o e n => ⟨e, fun z => n (.inl z)⟩) (t1.mono fun a o e n => ⟨e, fun z => n (.inl z)⟩)
end
end Dl

namespace K62
open PySem PySem.Spec PyProof.Rows L2 Dl
def topS (i : Nat) : Stmt := PySem.Challenge.pw_askround_k62_tables_added.main.body.getD i (.Pass ⟨0, 0, 0, 0⟩)
abbrev d_MOST_LINES : PyData := (.int 8)
def nm_ : List Str := ["NoTable"]
def ts_ : List Str := ["NoRound", "NoRecord", "NoForm", "NoFit", "NoWeights", "NoLines", "NoPlaces", "NoCounts", "NoTable", "NoPlace", "Full", "Clash", "CannotGo", "NoCondition", "NoCheck", "NoBook", "NoKey", "NoFits", "NoEntry", "NoNames", "NoLine", "NoKind", "NoValue", "NoTotals", "NoText", "Twice", "TooWide", "Stuck"]
def q_ : Str := ("law" : Str) ++ ".<locals>." ++ "<lambda>"
structure Tx (K : PySem.W.Frag) (mg : Str → Option Value) : Prop where
  b_ValueError : mg "ValueError" = none
  b_abs : mg "abs" = none
  b_all : mg "all" = none
  b_bool : mg "bool" = none
  b_int : mg "int" = none
  b_isinstance : mg "isinstance" = none
  b_len : mg "len" = none
  b_list : mg "list" = none
  b_max : mg "max" = none
  b_min : mg "min" = none
  b_range : mg "range" = none
  b_repr : mg "repr" = none
  b_tuple : mg "tuple" = none
  b_zip : mg "zip" = none
  c_MOST_LINES : GC K mg "MOST_LINES" d_MOST_LINES
  q_gcd : mg "gcd" = some (.builtin "math.gcd")
section
variable {P : Program} {w : World} {K : PySem.W.Frag} {mg : Str → Option Value} {base : Heap}
/-! #### _law_pot -/
abbrev s__law_pot : Stmt := topS 44
theorem sc__law_pot : FnScope ["_law_script", "_law_k", "_law_cell"] ["_law_script", "_law_k"] (defScope s__law_pot) := ⟨rfl, rfl, rfl, by decide +kernel, rfl, by decide +kernel, by decide +kernel⟩
def b__law_pot : DF := (rSeq (sSet 2 (dC (.int 0)))
  (rSeq (sIf (dTst (dOp gLt (dVar 1) (dB gLen (aCons (dVar 0) aNil))))
  (sSet 2 (dOp gMod (dB gAbs (aCons (dOp gIx (dVar 0) (dVar 1)) aNil)) (dOp gPow (dOp gPow (dC (.int 10)) (dC (.int 60))) (dC (.int 10)))))
  sNil)
  (fLst (aCons (dOp gMulB (dVar 2) (dB gInt1 (aCons (dOp gGe (dVar 2) (dOp gPow (dC (.int 10)) (dC (.int 18)))) aNil))) (aCons (dOp gMod (dOp gPow (dOp gAdd (dOp gAdd (dOp gMod (dVar 2) (dC (.int 2147483629))) (dOp gMulB (dC (.int 7919)) (dVar 1))) (dC (.int 1))) (dC (.int 5))) (dC (.int 2305843009213693951))) (aCons (dC (.int 0)) aNil))))))
def m__law_pot : List PyData → Option (List PyData) := fnF ["_law_script", "_law_k", "_law_cell"] 2 b__law_pot
theorem ok__law_pot (F : Std K mg "_law_pot" s__law_pot ["_law_script", "_law_k"]) (T : Tx K mg)  : Cal P w K mg base 1 "_law_pot" ["_law_script", "_law_k"] (spF K m__law_pot) := by
  refine calF F sc__law_pot (fun f cdv A outer s H E Z hr => ?_)
  unfold b__law_pot
  exact (rcons (sset (i := 2) sc__law_pot.nd rfl (by first | exact .inl rfl | exact .inr rfl) di)
  (rcons (sif (dtcmp op_ltA ok_lt (dv 1) (dcb call_len ok_len (by rfl) T.b_len boot_len (dac (dv 0) danil)) (nomark _))
  (sone (sset (i := 2) sc__law_pot.nd rfl (by first | exact .inl rfl | exact .inr rfl) (do_ op_mod ok_mod (dcb call_abs ok_abs (by rfl) T.b_abs (by decide +kernel) (dac (dix ix_seq ok_ix (dv 0) (dv 1)) danil)) (do_ op_powW ok_pow (do_ op_powW ok_pow di di) di))))
  snil)
  (rone (rret (flst (dac (do_ op_mulB ok_mulB (dv 2) (dcty call_int1 ok_int1 (by rfl) T.b_int (by decide +kernel) (dac (dcmp op_ge ok_ge (dv 2) (do_ op_powW ok_pow di di) (nomark _)) danil))) (dac (do_ op_mod ok_mod (do_ op_powW ok_pow (do_ op_addA ok_add (do_ op_addA ok_add (do_ op_mod ok_mod (dv 2) di) (do_ op_mulB ok_mulB di (dv 1))) di) di) di) (dac di danil))))))))
/-! #### _law_take -/
abbrev s__law_take : Stmt := topS 45
theorem sc__law_take : FnScope ["_law_pot_here", "_law_many", "_law_found", "_law_one", "_law_other"] ["_law_pot_here", "_law_many"] (defScope s__law_take) := ⟨rfl, rfl, rfl, by decide +kernel, rfl, by decide +kernel, by decide +kernel⟩
def b__law_take : DS := (sSeq (sIf (dTst (dOp gGt (dIxC 0 (dC (.int 0))) (dC (.int 0))))
  (sSeq (sSet 2 (dOp gMod (dIxC 0 (dC (.int 0))) (dVar 1)))
  (sSeq (sSetIx 0 (dOp gDivA (dIxC 0 (dC (.int 0))) (dVar 1)) (dC (.int 0)))
  (sRet (dVar 2))))
  sNil)
  (sSeq (sSetIx 0 (dOp gAdd (dIxC 0 (dC (.int 2))) (dC (.int 1))) (dC (.int 2)))
  (sSeq (sSet 3 (dOp gMod (dOp gPow (dOp gAdd (dIxC 0 (dC (.int 1))) (dOp gMulB (dC (.int 104729)) (dIxC 0 (dC (.int 2))))) (dC (.int 3))) (dC (.int 2305843009213693921))))
  (sSeq (sSet 4 (dOp gMod (dOp gPow (dOp gAdd (dOp gAdd (dVar 3) (dOp gMod (dIxC 0 (dC (.int 1))) (dC (.int 65537)))) (dOp gMulB (dC (.int 31)) (dIxC 0 (dC (.int 2))))) (dC (.int 5))) (dC (.int 2305843009213693907))))
  (sRet (dOp gMod (dOp gDivA (dVar 4) (dC (.int 1024))) (dVar 1)))))))
def m__law_take : List PyData → List PyData → Option (PyData × List PyData) := fnM ["_law_pot_here", "_law_many", "_law_found", "_law_one", "_law_other"] 2 b__law_take
theorem ok__law_take (F : Std K mg "_law_take" s__law_take ["_law_pot_here", "_law_many"]) (T : Tx K mg)  : Cal P w K mg base 1 "_law_take" ["_law_pot_here", "_law_many"] (spM K m__law_take) := by
  refine calM F sc__law_take (fun f cdv A outer s H E Z hr => ?_)
  unfold b__law_take
  exact (scons (sif (dtcmp op_gt ok_gt (dixC 0 (pv 0) di) di (nomark _))
  (scons (sset (i := 2) sc__law_take.nd rfl (by first | exact .inl rfl | exact .inr rfl) (do_ op_mod ok_mod (dixC 0 (pv 0) di) (dv 1)))
  (scons (ssetIx 0 (do_ op_fdivA ok_divA (dixC 0 (pv 0) di) (dv 1)) (pv 0) di)
  (sone (sret (dv 2)))))
  snil)
  (scons (ssetIx 0 (do_ op_addA ok_add (dixC 0 (pv 0) di) di) (pv 0) di)
  (scons (sset (i := 3) sc__law_take.nd rfl (by first | exact .inl rfl | exact .inr rfl) (do_ op_mod ok_mod (do_ op_powW ok_pow (do_ op_addA ok_add (dixC 0 (pv 0) di) (do_ op_mulB ok_mulB di (dixC 0 (pv 0) di))) di) di))
  (scons (sset (i := 4) sc__law_take.nd rfl (by first | exact .inl rfl | exact .inr rfl) (do_ op_mod ok_mod (do_ op_powW ok_pow (do_ op_addA ok_add (do_ op_addA ok_add (dv 3) (do_ op_mod ok_mod (dixC 0 (pv 0) di) di)) (do_ op_mulB ok_mulB di (dixC 0 (pv 0) di))) di) di))
  (sone (sret (do_ op_mod ok_mod (do_ op_fdivA ok_divA (dv 4) di) (dv 1))))))))
/-! #### _law_fraction -/
abbrev s__law_fraction : Stmt := topS 46
theorem sc__law_fraction : FnScope ["_law_p", "_law_q", "_law_one", "_law_other"] ["_law_p", "_law_q"] (defScope s__law_fraction) := ⟨rfl, rfl, rfl, by decide +kernel, rfl, by decide +kernel, by decide +kernel⟩
def b__law_fraction : DS := (sSeq (sPar 2 3 (dB gAbs (aCons (dVar 0) aNil)) (dB gAbs (aCons (dVar 1) aNil)))
  (sSeq (sWhile (dTst (dOp gGt (dVar 3) (dC (.int 0))))
  (sPar 2 3 (dVar 3) (dOp gMod (dVar 2) (dVar 3))) bigF)
  (sSeq (sIf (dTst (dOp gLt (dVar 1) (dC (.int 0))))
  (sSet 2 (dOp gSub (dC (.int 0)) (dVar 2)))
  sNil)
  (sRet (dTup (aCons (dOp gDivA (dVar 0) (dVar 2)) (aCons (dOp gDivA (dVar 1) (dVar 2)) aNil)))))))
def m__law_fraction : List PyData → Option PyData := fnP ["_law_p", "_law_q", "_law_one", "_law_other"] 2 b__law_fraction
theorem ok__law_fraction (F : Std K mg "_law_fraction" s__law_fraction ["_law_p", "_law_q"]) (T : Tx K mg)  : Cal P w K mg base 1 "_law_fraction" ["_law_p", "_law_q"] (spP K m__law_fraction) := by
  refine calP F sc__law_fraction (fun f cdv A outer s H E Z hr => ?_)
  unfold b__law_fraction
  exact (scons (spar (i := 2) (j := 3) rfl sc__law_fraction.nd rfl rfl (by decide) rfl rfl (dcb call_abs ok_abs (by rfl) T.b_abs (by decide +kernel) (dac (dv 0) danil)) (dcb call_abs ok_abs (by rfl) T.b_abs (by decide +kernel) (dac (dv 1) danil)) (by rfl))
  (scons (swhile bigF PassesOwn.never (dtcmp op_gt ok_gt (dv 3) di (nomark _))
  (sone (spar (i := 2) (j := 3) rfl sc__law_fraction.nd rfl rfl (by decide) rfl rfl (dv 3) (do_ op_mod ok_mod (dv 2) (dv 3)) (by rfl))))
  (scons (sif (dtcmp op_ltA ok_lt (dv 1) di (nomark _))
  (sone (sset (i := 2) sc__law_fraction.nd rfl (by first | exact .inl rfl | exact .inr rfl) (do_ op_sub ok_sub di (dv 2))))
  snil)
  (sone (sret (dtup (dac (do_ op_fdivA ok_divA (dv 0) (dv 2)) (dac (do_ op_fdivA ok_divA (dv 1) (dv 2)) danil))))))))
/-! #### _law_row_here -/
abbrev s__law_table : Stmt := topS 49
abbrev s__law_row_here : Stmt := (defBody s__law_table).getD 0 (.Pass ⟨0, 0, 0, 0⟩)
def qt__law_table : Str := ("_law_table" : Str) ++ ".<locals>." ++ "_law_row_here"
theorem sc__law_row_here : NdefX.NScope ["_law_size", "_law_pot_here", "_law_found", "_law_k", "_law_top", "_law_under"] ["_law_size"] ["_law_pot_here"] (C8.fnScope s__law_row_here) := NdefX.nscope_by (by decide +kernel)
def b__law_row_here : DS := (sSeq (sOwn 2 (fLst aNil))
  (sSeq (sFor (itR1 (dVar 0)) (tgN 3)
  (sSeq (sSet 4 (dOp gIx (dL (fLst (aCons (dC (.int 0)) (aCons (dOp gSub (dCallM m__law_take 1 (aCons (dC (.int 41)) aNil)) (dC (.int 20))) (aCons (dOp gSub (dCallM m__law_take 1 (aCons (dOp gPow (dC (.int 10)) (dC (.int 12))) aNil)) (dOp gPow (dC (.int 10)) (dC (.int 11)))) aNil))))) (dCallM m__law_take 1 (aCons (dC (.int 3)) aNil))))
  (sSeq (sSet 5 (dOp gAdd (dC (.int 1)) (dOp gIx (dL (fLst (aCons (dC (.int 0)) (aCons (dCallM m__law_take 1 (aCons (dC (.int 12)) aNil)) (aCons (dCallM m__law_take 1 (aCons (dOp gPow (dC (.int 10)) (dC (.int 6))) aNil)) aNil))))) (dCallM m__law_take 1 (aCons (dC (.int 3)) aNil)))))
  (sApp 2 (dCall m__law_fraction (aCons (dVar 4) (aCons (dVar 5) aNil)))))))
  (sSeq (sFrz 2) (sRet (dB gTuple (aCons (dVar 2) aNil))))))
def m__law_row_here : List PyData → List PyData → Option (PyData × List PyData) := fnN ["_law_size", "_law_pot_here", "_law_found", "_law_k", "_law_top", "_law_under"] 1 b__law_row_here
theorem ok__law_row_here (T : Tx K mg) (c__law_take : Cal P w K mg base 1 "_law_take" ["_law_pot_here", "_law_many"] (spM K m__law_take)) (c__law_fraction : Cal P w K mg base 1 "_law_fraction" ["_law_p", "_law_q"] (spP K m__law_fraction)) {f c' : Addr} {cl : List (Str × Addr)} : NdefX.NOk P w K mg base CX0 2 f (NdefX.NF.of s__law_row_here "_law_row_here" qt__law_table cl c') ["_law_size"] ["_law_pot_here"] (spN K m__law_row_here) := by
  refine nokN sc__law_row_here (fun _ _ _ us hl => match us, hl with | [_], _ => rfl) (fun A outer s H E Z hr => ?_)
  unfold b__law_row_here
  exact (scons (sown (i := 2) sc__law_row_here.nd rfl (by first | exact .inl rfl | exact .inr rfl) (flst danil))
  (scons (sfor PassesOwn.never rfl (pir1 (by rfl) T.b_range (dv 0)) (pg_name (i := 3) sc__law_row_here.nd rfl (by first | exact .inl rfl | exact .inr rfl)) tgn
  (scons (sset (i := 4) sc__law_row_here.nd rfl (by first | exact .inl rfl | exact .inr rfl) (dix ix_seq ok_ix (dfr (flst (dac di (dac (do_ op_sub ok_sub (dclM 1 c__law_take hr (by decide) (by rfl) (pv 1) (dac di danil)) di) (dac (do_ op_sub ok_sub (dclM 1 c__law_take hr (by decide) (by rfl) (pv 1) (dac (do_ op_powW ok_pow di di) danil)) (do_ op_powW ok_pow di di)) danil))))) (dclM 1 c__law_take hr (by decide) (by rfl) (pv 1) (dac di danil))))
  (scons (sset (i := 5) sc__law_row_here.nd rfl (by first | exact .inl rfl | exact .inr rfl) (do_ op_addA ok_add di (dix ix_seq ok_ix (dfr (flst (dac di (dac (dclM 1 c__law_take hr (by decide) (by rfl) (pv 1) (dac di danil)) (dac (dclM 1 c__law_take hr (by decide) (by rfl) (pv 1) (dac (do_ op_powW ok_pow di di) danil)) danil))))) (dclM 1 c__law_take hr (by decide) (by rfl) (pv 1) (dac di danil)))))
  (sone (sapp 2 (pv 2) (dcl c__law_fraction hr (by decide) (by rfl) (dac (dv 4) (dac (dv 5) danil))))))))
  (sfrz (i := 2) (sone (sret (dcty call_tuple_of ok_tuple (by rfl) T.b_tuple (by decide +kernel) (dac (dv 2) danil)))))))
/-! #### _law_table -/
theorem sc__law_table : FnScope ["_law_pot_here", "_law_many", "_law_wide", "_law_row_here", "_law_k", "~tab"] ["_law_pot_here", "_law_many", "_law_wide"] (defScope s__law_table) := ⟨rfl, rfl, rfl, by decide +kernel, rfl, by decide +kernel, by decide +kernel⟩
def rows_ (x : PyData) : Nat → List PyData → Option (List PyData × List PyData)
  | 0, pd => some ([], pd)
  | n + 1, pd => (m__law_row_here pd [x]).bind fun r => (rows_ x n r.2).map fun q => (r.1 :: q.1, q.2)
def m__law_table : List PyData → List PyData → Option (PyData × List PyData) := fun pd ds => match ds with
  | [.int many, .int wide] => if 0 ≤ many ∧ many ≤ 100 then (rows_ (.int wide) many.toNat pd).bind fun a => (m__law_row_here a.2 [.int many]).bind fun b => (m__law_row_here b.2 [.int wide]).bind fun c => (m__law_row_here c.2 [.int 1]).bind fun d => (gIx d.1 (.int 0)).map fun x => (.tuple [.tuple a.1, b.1, c.1, x], d.2) else none
  | _ => none
def e_ (f : Addr) : DE := dTup (aCons (dB gTuple (aCons (dL (fPot (fLc (itR1 (dVar 1)) 4 tYesD (dRow f 3 m__law_row_here (aCons (dVar 2) aNil))))) aNil)) (aCons (dRow f 3 m__law_row_here (aCons (dVar 1) aNil)) (aCons (dRow f 3 m__law_row_here (aCons (dVar 2) aNil)) (aCons (dOp gIx (dRow f 3 m__law_row_here (aCons (dC (.int 1)) aNil)) (dC (.int 0))) aNil))))
def S_ (f : Addr) (many wide : Int) (x : SV) (pd : List PyData) : Sl := [.pot 0 pd, .dat (.int many), .dat (.int wide), .rf f, x, .tab 1 qt__law_table]
theorem row_at {f : Addr} {many wide : Int} {x : SV} {pd : List PyData} {g : DA} {ds : List PyData} {r : PyData × List PyData} (hx : potUp 0 r.2 x = x) (hg : g (S_ f many wide x pd) = some (ds, S_ f many wide x pd)) (h : m__law_row_here pd ds = some r) : dRow f 3 m__law_row_here g (S_ f many wide x pd) = some (r.1, S_ f many wide x r.2) := by
  have e1 : isRf f (S_ f many wide x pd)[3]? = true := decide_eq_true rfl
  have e2 : potOf (S_ f many wide x pd)[0]? = some pd := rfl
  have e3 : setC (S_ f many wide x pd) 0 r.2 = S_ f many wide x r.2 := by
    show [SV.pot 0 r.2, .dat (.int many), .dat (.int wide), .rf f, potUp 0 r.2 x, .tab 1 qt__law_table] = _
    rw [hx]; rfl
  unfold dRow
  rw [if_pos e1, hg]
  dsimp only [Option.bind_some]
  rw [e2]
  dsimp only [Option.bind_some]
  rw [h, Option.map_some, e3]
theorem rows_at {f : Addr} {many wide : Int} : ∀ (is : List PyData) (x : SV) (pd : List PyData) (a : List PyData × List PyData), rows_ (.int wide) is.length pd = some a → ∃ x', lcRun 4 tYesD (dRow f 3 m__law_row_here (aCons (dVar 2) aNil)) is (S_ f many wide x pd) = some (a.1, S_ f many wide x' a.2)
  | [], x, pd, a, h => by
    cases h
    exact ⟨x, rfl⟩
  | d :: is, x, pd, a, h => by
    unfold rows_ at h
    obtain ⟨r, h1, h9⟩ := Option.bind_eq_some_iff.mp h
    obtain ⟨q, h2, h3⟩ := Option.map_eq_some_iff.mp h9
    cases h3
    clear h9 h
    obtain ⟨x', e⟩ := rows_at is (.dat d) r.2 q h2
    refine ⟨x', ?_⟩
    have e1 : (S_ f many wide x pd).set 4 (.dat d) = S_ f many wide (.dat d) pd := rfl
    unfold lcRun
    rw [e1]
    have e2 : tYesD (S_ f many wide (.dat d) pd) = some (true, S_ f many wide (.dat d) pd) := rfl
    rw [e2]
    dsimp only [Option.bind_some]
    rw [if_pos (show notOwn (S_ f many wide (.dat d) pd)[4]? = true from rfl), if_pos rfl, row_at (by rfl) (show aCons (dVar 2) aNil (S_ f many wide (.dat d) pd) = some ([.int wide], _) from rfl) h1]
    dsimp only [Option.bind_some]
    rw [if_pos (show notOwn (S_ f many wide (.dat d) r.2)[4]? = true from rfl), e]
    rfl
theorem rng_len (n : Nat) (m : Int) (h : m = n) : (rng 0 m).length = n := by
  subst h
  unfold rng
  rw [List.length_map, List.length_range]
  omega
theorem e_at {f : Addr} {pd ds : List PyData} {d : PyData} {pd' : List PyData} (h : m__law_table pd ds = some (d, pd')) : ∃ many wide, ds = [.int many, .int wide] ∧ e_ f (S_ f many wide .no pd) = some (d, S_ f many wide .no pd') := by
  unfold m__law_table at h
  split at h
  case h_2 => cases h
  rename_i many wide
  split at h
  case isFalse => cases h
  rename_i hm
  simp only [Option.bind_eq_some_iff, Option.map_eq_some_iff] at h
  obtain ⟨a, h1, b, h2, c, h3, d1, h4, x, h5, h6⟩ := h
  cases h6
  refine ⟨many, wide, rfl, ?_⟩
  have len : (rng 0 many).length = many.toNat := rng_len _ _ (Int.toNat_of_nonneg hm.1).symm
  rw [← len] at h1
  obtain ⟨x', e⟩ := rows_at (f := f) (many := many) (rng 0 many) .no pd a h1
  have small : -(2 ^ 62) ≤ many ∧ many < 2 ^ 62 := by omega
  have i1 : itR1 (dVar 1) (S_ f many wide .no pd) = some (rng 0 many, S_ f many wide .no pd) := by
    show (if -(2 ^ 62) ≤ many ∧ many < 2 ^ 62 then some (rng 0 many, S_ f many wide .no pd) else none) = _
    rw [if_pos small]
  have few : (rng 0 many).length < sizeLine := by rw [len]; exact Nat.lt_of_le_of_lt (show many.toNat ≤ 100 by omega) (by decide)
  have i2 : fLc (itR1 (dVar 1)) 4 tYesD (dRow f 3 m__law_row_here (aCons (dVar 2) aNil)) (S_ f many wide .no pd) = some (a.1, S_ f many wide .no a.2) := by
    unfold fLc
    rw [i1]
    dsimp only [Option.bind_some]
    rw [if_pos ⟨rfl, few⟩, e]
    rfl
  have i3 : dL (fPot (fLc (itR1 (dVar 1)) 4 tYesD (dRow f 3 m__law_row_here (aCons (dVar 2) aNil)))) (S_ f many wide .no pd) = some (.list a.1, S_ f many wide .no a.2) := by
    unfold dL fPot
    rw [if_pos (show isPot0 (S_ f many wide .no pd)[0]? = true from rfl), i2]
    rfl
  have i4 := row_at (f := f) (many := many) (wide := wide) (x := .no) (g := aCons (dVar 1) aNil) (by rfl) (by rfl) h2
  have i5 := row_at (f := f) (many := many) (wide := wide) (x := .no) (g := aCons (dVar 2) aNil) (by rfl) (by rfl) h3
  have i6 := row_at (f := f) (many := many) (wide := wide) (x := .no) (g := aCons (dC (.int 1)) aNil) (by rfl) (by rfl) h4
  have aC : ∀ {f : DE} {g : DA} {s s1 s2 : Sl} {d : PyData} {ds : List PyData}, f s = some (d, s1) → g s1 = some (ds, s2) → aCons f g s = some (d :: ds, s2) := fun {f g s s1 s2 d ds} h1 h2 => by
    unfold aCons
    rw [h1, Option.bind_some, h2]
    rfl
  have aN : ∀ {s : Sl}, aNil s = some ([], s) := rfl
  have i7 : dB gTuple (aCons (dL (fPot (fLc (itR1 (dVar 1)) 4 tYesD (dRow f 3 m__law_row_here (aCons (dVar 2) aNil))))) aNil) (S_ f many wide .no pd) = some (.tuple a.1, S_ f many wide .no a.2) := by
    unfold dB
    rw [aC i3 aN]
    rfl
  have i8 : dOp gIx (dRow f 3 m__law_row_here (aCons (dC (.int 1)) aNil)) (dC (.int 0)) (S_ f many wide .no c.2) = some (x, S_ f many wide .no d1.2) := by
    unfold dOp
    rw [i6, Option.bind_some]
    show (gIx d1.1 (.int 0)).map _ = _
    rw [h5]
    rfl
  unfold e_ dTup
  rw [aC i7 (aC i4 (aC i5 (aC i8 aN)))]
  rfl
theorem ok__law_table {c Tb : Addr} (F : Std K mg "_law_table" s__law_table ["_law_pot_here", "_law_many", "_law_wide"]) (T : Tx K mg) (TB : LamX.TabB base mg c Tb) (hc : ∀ f fd, mg "_law_table" = some (.ref f) → Fun K "_law_table" "_law_table" s__law_table f fd → fd.code = .ref c) (c__law_take : Cal P w K mg base 1 "_law_take" ["_law_pot_here", "_law_many"] (spM K m__law_take)) (c__law_fraction : Cal P w K mg base 1 "_law_fraction" ["_law_p", "_law_q"] (spP K m__law_fraction)) : Cal P w K mg base 3 "_law_table" ["_law_pot_here", "_law_many", "_law_wide"] (spMT K Tb qt__law_table m__law_table) := by
  refine calT (nst := s__law_row_here) (name := "_law_row_here") (y := "_law_pot_here") (i := 3) (b := fun f => sRet (e_ f)) F sc__law_table hc TB rfl rfl rfl rfl (by first | exact .inl rfl | exact .inr rfl) (NdefX.ndef_free (fr := ["_law_pot_here"]) (by decide +kernel)) (by decide +kernel) rfl rfl rfl (fun _ => rfl) (fun pd ds d pd' h => ?_) (fun X f p c' Z G see sub away hX => ?_)
  · obtain ⟨many, wide, rfl, _⟩ := e_at (f := 0) h
    refine ⟨rfl, Nat.le_of_ble_eq_true rfl, rfl, fun f => ?_⟩
    obtain ⟨many', wide', e0, e⟩ := e_at (f := f) h
    cases e0
    refine ⟨S_ f many wide .no pd', ?_, ?_, rfl⟩
    · show (e_ f (S_ f many wide .no pd)).map (fun p => Fl.rt p.1 p.2) = _
      rw [e]
      rfl
    · simp [okTab, S_]
  · obtain ⟨g, A, outer, s, H, E, rfl, hr⟩ := hX
    have Fn := ok__law_row_here (P := P) (w := w) (base := base) (f := f) (c' := c') (cl := cloFrom (cxOf CX0 P w K mg base ["_law_pot_here", "_law_many", "_law_wide", "_law_row_here", "_law_k", "~tab"] "_law_table" (defScope s__law_table) g (.ref c) A outer s H E).nox.env.cells (C8.fnScope s__law_row_here).names []) T c__law_take c__law_fraction
    unfold e_
    exact (sone (sret (dtup (dac (dcty call_tuple_of ok_tuple (by rfl) T.b_tuple (by decide +kernel) (dac (dfr (flcTie rfl sc__law_table.nd (pir1 (by rfl) T.b_range (dv 1)) (blkOk_by (own := [("_law_k", 4)]) (N := ["_law_pot_here", "_law_many", "_law_wide", "_law_row_here", "_law_k", "~tab"]) (sc := defScope s__law_table) (by decide +kernel)) see sub away G.pot (fun _ _ _ _ _ => pg_name (i := 4) sc__law_table.nd rfl (by first | exact .inl rfl | exact .inr rfl)) (fun _ _ _ _ _ Z2 z1 z2 see2 => drow (i := 3) (G.to z1 z2) Fn see2 hr (by decide) rfl (by first | exact Or.inl rfl | exact Or.inr (Or.inl rfl) | exact Or.inr (Or.inr rfl)) (dac (dv 2) danil)))) danil)) (dac (drow (i := 3) G Fn see hr (by decide) rfl (by first | exact Or.inl rfl | exact Or.inr (Or.inl rfl) | exact Or.inr (Or.inr rfl)) (dac (dv 1) danil)) (dac (drow (i := 3) G Fn see hr (by decide) rfl (by first | exact Or.inl rfl | exact Or.inr (Or.inl rfl) | exact Or.inr (Or.inr rfl)) (dac (dv 2) danil)) (dac (dix ix_seq ok_ix (drow (i := 3) G Fn see hr (by decide) rfl (by first | exact Or.inl rfl | exact Or.inr (Or.inl rfl) | exact Or.inr (Or.inr rfl)) (dac di danil)) di) danil)))))))
/-! #### _law_plus -/
abbrev s__law_plus : Stmt := topS 47
theorem sc__law_plus : FnScope ["_law_one", "_law_other"] ["_law_one", "_law_other"] (defScope s__law_plus) := ⟨rfl, rfl, rfl, by decide +kernel, rfl, by decide +kernel, by decide +kernel⟩
def b__law_plus : DS := (sRet (dCall m__law_fraction (aCons (dOp gAdd (dOp gMulB (dOp gIx (dVar 0) (dC (.int 0))) (dOp gIx (dVar 1) (dC (.int 1)))) (dOp gMulB (dOp gIx (dVar 1) (dC (.int 0))) (dOp gIx (dVar 0) (dC (.int 1))))) (aCons (dOp gMulB (dOp gIx (dVar 0) (dC (.int 1))) (dOp gIx (dVar 1) (dC (.int 1)))) aNil))))
def m__law_plus : List PyData → Option PyData := fnP ["_law_one", "_law_other"] 2 b__law_plus
theorem ok__law_plus (F : Std K mg "_law_plus" s__law_plus ["_law_one", "_law_other"]) (T : Tx K mg) (c__law_fraction : Cal P w K mg base 1 "_law_fraction" ["_law_p", "_law_q"] (spP K m__law_fraction)) : Cal P w K mg base 2 "_law_plus" ["_law_one", "_law_other"] (spP K m__law_plus) := by
  refine calP F sc__law_plus (fun f cdv A outer s H E Z hr => ?_)
  unfold b__law_plus
  exact (sone (sret (dcl c__law_fraction hr (by decide) (by rfl) (dac (do_ op_addA ok_add (do_ op_mulB ok_mulB (dix ix_seq ok_ix (dv 0) di) (dix ix_seq ok_ix (dv 1) di)) (do_ op_mulB ok_mulB (dix ix_seq ok_ix (dv 1) di) (dix ix_seq ok_ix (dv 0) di))) (dac (do_ op_mulB ok_mulB (dix ix_seq ok_ix (dv 0) di) (dix ix_seq ok_ix (dv 1) di)) danil)))))
/-! #### _law_due -/
abbrev s__law_due : Stmt := topS 51
theorem sc__law_due : FnScope ["_law_one", "_law_other", "_law_cells", "_law_row_here", "_law_more", "_law_here", "_law_there", "_law_sums", "_law_at"] ["_law_one", "_law_other"] (defScope s__law_due) := ⟨rfl, rfl, rfl, by decide +kernel, rfl, by decide +kernel, by decide +kernel⟩
def b__law_due : DS := (sSeq (sOwn 2 (fLst aNil))
  (sSeq (sFor (itZB (dOp gIx (dVar 0) (dC (.int 0))) (dOp gIx (dVar 1) (dC (.int 0)))) (tgT [(tgN 3), (tgN 4)])
  (sApp 2 (dB gTuple (aCons (dL (fLcT (itZB (dVar 3) (dVar 4)) [5, 6] (tgT [(tgN 5), (tgN 6)]) tYesD (dCall m__law_plus (aCons (dVar 5) (aCons (dVar 6) aNil))))) aNil))))
  (sSeq (sSet 7 (dL (fLc (itA (dTup (aCons (dC (.int 1)) (aCons (dC (.int 2)) aNil)))) 8 tYesD (dB gTuple (aCons (dL (fLcT (itZB (dOp gIx (dVar 0) (dVar 8)) (dOp gIx (dVar 1) (dVar 8))) [5, 6] (tgT [(tgN 5), (tgN 6)]) tYesD (dCall m__law_plus (aCons (dVar 5) (aCons (dVar 6) aNil))))) aNil)))))
  (sSeq (sFrz 2) (sRet (dTup (aCons (dB gTuple (aCons (dVar 2) aNil)) (aCons (dOp gIx (dVar 7) (dC (.int 0))) (aCons (dOp gIx (dVar 7) (dC (.int 1))) (aCons (dCall m__law_plus (aCons (dOp gIx (dVar 0) (dC (.int 3))) (aCons (dOp gIx (dVar 1) (dC (.int 3))) aNil))) aNil))))))))))
def m__law_due : List PyData → Option PyData := fnP ["_law_one", "_law_other", "_law_cells", "_law_row_here", "_law_more", "_law_here", "_law_there", "_law_sums", "_law_at"] 2 b__law_due
theorem ok__law_due (F : Std K mg "_law_due" s__law_due ["_law_one", "_law_other"]) (T : Tx K mg) (c__law_plus : Cal P w K mg base 2 "_law_plus" ["_law_one", "_law_other"] (spP K m__law_plus)) : Cal P w K mg base 3 "_law_due" ["_law_one", "_law_other"] (spP K m__law_due) := by
  refine calP F sc__law_due (fun f cdv A outer s H E Z hr => ?_)
  unfold b__law_due
  exact (scons (sown (i := 2) sc__law_due.nd rfl (by first | exact .inl rfl | exact .inr rfl) (flst danil))
  (scons (sforG PassesOwn.never rfl (pizipB (by rfl) T.b_zip (dix ix_seq ok_ix (dv 0) di) (dix ix_seq ok_ix (dv 1) di)) (pg_tup rfl (pgs_cons (pg_name (i := 3) sc__law_due.nd rfl (by first | exact .inl rfl | exact .inr rfl)) (pgs_cons (pg_name (i := 4) sc__law_due.nd rfl (by first | exact .inl rfl | exact .inr rfl)) pgs_nil))) (tgt rfl (tgscons tgn (tgscons tgn tgsnil)))
  (sone (sapp 2 (pv 2) (dcty call_tuple_of ok_tuple (by rfl) T.b_tuple (by decide +kernel) (dac (dfr (flcT rfl sc__law_due.nd (pizipB (by rfl) T.b_zip (dv 3) (dv 4)) (blkOk_by (own := [("_law_here", 5), ("_law_there", 6)]) (N := ["_law_one", "_law_other", "_law_cells", "_law_row_here", "_law_more", "_law_here", "_law_there", "_law_sums", "_law_at"]) (sc := defScope s__law_due) (by decide +kernel)) (fun _ _ _ _ _ => (pg_tup rfl (pgs_cons (pg_name (i := 5) sc__law_due.nd rfl (by first | exact .inl rfl | exact .inr rfl)) (pgs_cons (pg_name (i := 6) sc__law_due.nd rfl (by first | exact .inl rfl | exact .inr rfl)) pgs_nil)))) (wgt rfl (wgscons (wgn (i := 5)) (wgscons (wgn (i := 6)) wgsnil))) (fun _ _ _ _ _ _ => tynil) (fun _ _ _ _ _ _ => (dcl c__law_plus hr (by decide) (by rfl) (dac (dv 5) (dac (dv 6) danil)))))) danil)))))
  (scons (ssetLc (i := 7) rfl sc__law_due.nd rfl rfl (sw_true rfl rfl rfl (by decide +kernel)) (pia (dtup (dac di (dac di danil)))) (blkOk_by (own := [("_law_at", 8)]) (N := ["_law_one", "_law_other", "_law_cells", "_law_row_here", "_law_more", "_law_here", "_law_there", "_law_sums", "_law_at"]) (sc := defScope s__law_due) (by decide +kernel)) (fun _ _ _ _ _ => pg_name (i := 8) sc__law_due.nd rfl (by first | exact .inl rfl | exact .inr rfl)) (fun _ _ _ _ _ _ => tynil) (fun _ _ _ _ _ _ => (dcty call_tuple_of ok_tuple (by rfl) T.b_tuple (by decide +kernel) (dac (dfr (flcT rfl sc__law_due.nd (pizipB (by rfl) T.b_zip (dix ix_seq ok_ix (dv 0) (dv 8)) (dix ix_seq ok_ix (dv 1) (dv 8))) (blkOk_by (own := [("_law_here", 5), ("_law_there", 6)]) (N := ["_law_one", "_law_other", "_law_cells", "_law_row_here", "_law_more", "_law_here", "_law_there", "_law_sums", "_law_at"]) (sc := relS _ (defScope s__law_due)) (by decide +kernel)) (fun _ _ _ _ _ => (pg_tup rfl (pgs_cons (pg_name (i := 5) sc__law_due.nd rfl (by first | exact .inl rfl | exact .inr rfl)) (pgs_cons (pg_name (i := 6) sc__law_due.nd rfl (by first | exact .inl rfl | exact .inr rfl)) pgs_nil)))) (wgt rfl (wgscons (wgn (i := 5)) (wgscons (wgn (i := 6)) wgsnil))) (fun _ _ _ _ _ _ => tynil) (fun _ _ _ _ _ _ => (dcl c__law_plus hr (by decide) (by rfl) (dac (dv 5) (dac (dv 6) danil)))))) danil))))
  (sfrz (i := 2) (sone (sret (dtup (dac (dcty call_tuple_of ok_tuple (by rfl) T.b_tuple (by decide +kernel) (dac (dv 2) danil)) (dac (dix ix_seq ok_ix (dv 7) di) (dac (dix ix_seq ok_ix (dv 7) di) (dac (dcl c__law_plus hr (by decide) (by rfl) (dac (dix ix_seq ok_ix (dv 0) di) (dac (dix ix_seq ok_ix (dv 1) di) danil))) danil)))))))))))
/-! #### _law_no_table -/
abbrev s__law_no_table : Stmt := topS 52
theorem sc__law_no_table : FnScope ["_law_pot_here", "_law_table_here", "_law_many", "_law_wide", "_law_cells", "_law_rows", "_law_columns", "_law_together", "_law_odd", "_law_at", "_law_place", "_law_line", "_law_bent", "_law_some", "_law_longer"] ["_law_pot_here", "_law_table_here", "_law_many", "_law_wide"] (defScope s__law_no_table) := ⟨rfl, rfl, rfl, by decide +kernel, rfl, by decide +kernel, by decide +kernel⟩
def b__law_no_table : DS := (sSeq (sAsg (dVar 1) (tgT [(tgN 4), (tgN 5), (tgN 6), (tgN 7)]))
  (sSeq (sSet 8 (dOp gIx (dL (fLst (aCons (dC .none) (aCons (dC (.bool true)) (aCons (dTup (aCons (dC (.int 2)) (aCons (dC (.int 4)) aNil))) (aCons (dTup (aCons (dC (.int 1)) (aCons (dC (.int 0)) aNil))) (aCons (dTup (aCons (dC (.int 1)) (aCons (dUn gNeg (dC (.int 1))) aNil))) (aCons (dL (fLst (aCons (dC (.int 1)) (aCons (dC (.int 1)) aNil)))) (aCons (dTup (aCons (dC (.bool true)) (aCons (dC (.int 1)) aNil))) (aCons (dC (.int 5)) (aCons (dC (.str "1")) (aCons (dTup (aCons (dC (.int 1)) (aCons (dC (.int 1)) (aCons (dC (.int 1)) aNil)))) aNil)))))))))))) (dCallM m__law_take 0 (aCons (dC (.int 10)) aNil))))
  (sSeq (sPar 9 10 (dCallM m__law_take 0 (aCons (dVar 2) aNil)) (dCallM m__law_take 0 (aCons (dVar 3) aNil)))
  (sSeq (sSet 11 (dOp gAdd (dOp gAdd (dSl (dOp gIx (dVar 4) (dVar 9)) oN (oS (dVar 10))) (dTup (aCons (dVar 8) aNil))) (dSl (dOp gIx (dVar 4) (dVar 9)) (oS (dOp gAdd (dVar 10) (dC (.int 1)))) oN)))
  (sSeq (sSet 12 (dOp gAdd (dOp gAdd (dSl (dVar 4) oN (oS (dVar 9))) (dTup (aCons (dVar 11) aNil))) (dSl (dVar 4) (oS (dOp gAdd (dVar 9) (dC (.int 1)))) oN)))
  (sSeq (sOwn 13 (fLst (aCons (dTup (aCons (dVar 12) (aCons (dVar 5) (aCons (dVar 6) (aCons (dVar 7) aNil))))) aNil)))
  (sSeq (sApp 13 (dTup (aCons (dVar 4) (aCons (dOp gAdd (dOp gAdd (dSl (dVar 5) oN (oS (dVar 9))) (dTup (aCons (dVar 8) aNil))) (dSl (dVar 5) (oS (dOp gAdd (dVar 9) (dC (.int 1)))) oN)) (aCons (dVar 6) (aCons (dVar 7) aNil))))))
  (sSeq (sApp 13 (dTup (aCons (dVar 4) (aCons (dVar 5) (aCons (dOp gAdd (dOp gAdd (dSl (dVar 6) oN (oS (dVar 10))) (dTup (aCons (dVar 8) aNil))) (dSl (dVar 6) (oS (dOp gAdd (dVar 10) (dC (.int 1)))) oN)) (aCons (dVar 7) aNil))))))
  (sSeq (sApp 13 (dTup (aCons (dVar 4) (aCons (dVar 5) (aCons (dVar 6) (aCons (dVar 8) aNil))))))
  (sSeq (sFrz 13) (sSeq (sOwn 13 (fCat (dVar 13) (dL (fLst (aCons (dTup (aCons (dVar 4) (aCons (dOp gAdd (dVar 5) (dTup (aCons (dTup (aCons (dC (.int 0)) (aCons (dC (.int 1)) aNil))) aNil))) (aCons (dVar 6) (aCons (dVar 7) aNil))))) (aCons (dTup (aCons (dVar 4) (aCons (dVar 5) (aCons (dSl (dVar 6) (oS (dC (.int 1))) oN) (aCons (dVar 7) aNil))))) (aCons (dC .none) (aCons (dTup aNil) (aCons (dC (.dict [])) aNil)))))))))
  (sSeq (sFrz 13) (sSeq (sOwn 13 (fCat (dVar 13) (dL (fLst (aCons (dB gList (aCons (dVar 1) aNil)) (aCons (dOp gAdd (dTup (aCons (dB gList (aCons (dVar 4) aNil)) aNil)) (dSl (dVar 1) (oS (dC (.int 1))) oN)) aNil))))))
  (sSeq (sSet 14 (dOp gAdd (dOp gIx (dVar 4) (dC (.int 0))) (dTup (aCons (dTup (aCons (dC (.int 1)) (aCons (dC (.int 1)) aNil))) aNil))))
  (sSeq (sFrz 13) (sSeq (sOwn 13 (fCat (dVar 13) (dL (fLst (aCons (dTup (aCons (dOp gAdd (dVar 4) (dTup (aCons (dVar 14) aNil))) (aCons (dOp gAdd (dVar 5) (dTup (aCons (dTup (aCons (dC (.int 0)) (aCons (dC (.int 1)) aNil))) aNil))) (aCons (dVar 6) (aCons (dVar 7) aNil))))) (aCons (dSl (dVar 1) oN (oS (dC (.int 3)))) (aCons (dOp gAdd (dVar 1) (dTup (aCons (dC (.int 0)) aNil))) aNil)))))))
  (sSeq (sFrz 13) (sSeq (sOwn 13 (fCat (dVar 13) (dL (fLst (aCons (dTup (aCons (dOp gAdd (dOp gAdd (dSl (dVar 4) oN (oS (dVar 9))) (dTup (aCons (dB gList (aCons (dOp gIx (dVar 4) (dVar 9)) aNil)) aNil))) (dSl (dVar 4) (oS (dOp gAdd (dVar 9) (dC (.int 1)))) oN)) (aCons (dVar 5) (aCons (dVar 6) (aCons (dVar 7) aNil))))) (aCons (dVar 4) (aCons (dC (.int 5)) aNil)))))))
  (sRet (dIxC 13 (dCallM m__law_take 0 (aCons (dC (.int 17)) aNil))))))))))))))))))))))
def m__law_no_table : List PyData → List PyData → Option (PyData × List PyData) := fnM ["_law_pot_here", "_law_table_here", "_law_many", "_law_wide", "_law_cells", "_law_rows", "_law_columns", "_law_together", "_law_odd", "_law_at", "_law_place", "_law_line", "_law_bent", "_law_some", "_law_longer"] 4 b__law_no_table
theorem ok__law_no_table (F : Std K mg "_law_no_table" s__law_no_table ["_law_pot_here", "_law_table_here", "_law_many", "_law_wide"]) (T : Tx K mg) (c__law_take : Cal P w K mg base 1 "_law_take" ["_law_pot_here", "_law_many"] (spM K m__law_take)) : Cal P w K mg base 2 "_law_no_table" ["_law_pot_here", "_law_table_here", "_law_many", "_law_wide"] (spM K m__law_no_table) := by
  refine calM F sc__law_no_table (fun f cdv A outer s H E Z hr => ?_)
  unfold b__law_no_table
  exact (scons (sasg (dv 1) (pg_tup rfl (pgs_cons (pg_name (i := 4) sc__law_no_table.nd rfl (by first | exact .inl rfl | exact .inr rfl)) (pgs_cons (pg_name (i := 5) sc__law_no_table.nd rfl (by first | exact .inl rfl | exact .inr rfl)) (pgs_cons (pg_name (i := 6) sc__law_no_table.nd rfl (by first | exact .inl rfl | exact .inr rfl)) (pgs_cons (pg_name (i := 7) sc__law_no_table.nd rfl (by first | exact .inl rfl | exact .inr rfl)) pgs_nil))))) (tgt rfl (tgscons tgn (tgscons tgn (tgscons tgn (tgscons tgn tgsnil))))))
  (scons (sset (i := 8) sc__law_no_table.nd rfl (by first | exact .inl rfl | exact .inr rfl) (dix ix_seq ok_ix (dfr (flst (dac dn (dac db (dac (dtup (dac di (dac di danil))) (dac (dtup (dac di (dac di danil))) (dac (dtup (dac di (dac (du un_neg ok_neg di) danil))) (dac (dfr (flst (dac di (dac di danil)))) (dac (dtup (dac db (dac di danil))) (dac di (dac ds (dac (dtup (dac di (dac di (dac di danil)))) danil)))))))))))) (dclM 0 c__law_take hr (by decide) (by rfl) (pv 0) (dac di danil))))
  (scons (spar (i := 9) (j := 10) rfl sc__law_no_table.nd rfl rfl (by decide) rfl rfl (dclM 0 c__law_take hr (by decide) (by rfl) (pv 0) (dac (dv 2) danil)) (dclM 0 c__law_take hr (by decide) (by rfl) (pv 0) (dac (dv 3) danil)) (by rfl))
  (scons (sset (i := 11) sc__law_no_table.nd rfl (by first | exact .inl rfl | exact .inr rfl) (do_ op_addA ok_add (do_ op_addA ok_add (dsl (dix ix_seq ok_ix (dv 4) (dv 9)) don (dos (dv 10))) (dtup (dac (dv 8) danil))) (dsl (dix ix_seq ok_ix (dv 4) (dv 9)) (dos (do_ op_addA ok_add (dv 10) di)) don)))
  (scons (sset (i := 12) sc__law_no_table.nd rfl (by first | exact .inl rfl | exact .inr rfl) (do_ op_addA ok_add (do_ op_addA ok_add (dsl (dv 4) don (dos (dv 9))) (dtup (dac (dv 11) danil))) (dsl (dv 4) (dos (do_ op_addA ok_add (dv 9) di)) don)))
  (scons (sown (i := 13) sc__law_no_table.nd rfl (by first | exact .inl rfl | exact .inr rfl) (flst (dac (dtup (dac (dv 12) (dac (dv 5) (dac (dv 6) (dac (dv 7) danil))))) danil)))
  (scons (sapp 13 (pv 13) (dtup (dac (dv 4) (dac (do_ op_addA ok_add (do_ op_addA ok_add (dsl (dv 5) don (dos (dv 9))) (dtup (dac (dv 8) danil))) (dsl (dv 5) (dos (do_ op_addA ok_add (dv 9) di)) don)) (dac (dv 6) (dac (dv 7) danil))))))
  (scons (sapp 13 (pv 13) (dtup (dac (dv 4) (dac (dv 5) (dac (do_ op_addA ok_add (do_ op_addA ok_add (dsl (dv 6) don (dos (dv 10))) (dtup (dac (dv 8) danil))) (dsl (dv 6) (dos (do_ op_addA ok_add (dv 10) di)) don)) (dac (dv 7) danil))))))
  (scons (sapp 13 (pv 13) (dtup (dac (dv 4) (dac (dv 5) (dac (dv 6) (dac (dv 8) danil))))))
  (sfrz (i := 13) (scons (sown (i := 13) sc__law_no_table.nd rfl (by first | exact .inl rfl | exact .inr rfl) (fcat (dv 13) (dfr (flst (dac (dtup (dac (dv 4) (dac (do_ op_addA ok_add (dv 5) (dtup (dac (dtup (dac di (dac di danil))) danil))) (dac (dv 6) (dac (dv 7) danil))))) (dac (dtup (dac (dv 4) (dac (dv 5) (dac (dsl (dv 6) (dos di) don) (dac (dv 7) danil))))) (dac dn (dac (dtup danil) (dac ddct danil)))))))))
  (sfrz (i := 13) (scons (sown (i := 13) sc__law_no_table.nd rfl (by first | exact .inl rfl | exact .inr rfl) (fcat (dv 13) (dfr (flst (dac (dcty call_list_of ok_list (by rfl) T.b_list (by decide +kernel) (dac (dv 1) danil)) (dac (do_ op_addA ok_add (dtup (dac (dcty call_list_of ok_list (by rfl) T.b_list (by decide +kernel) (dac (dv 4) danil)) danil)) (dsl (dv 1) (dos di) don)) danil))))))
  (scons (sset (i := 14) sc__law_no_table.nd rfl (by first | exact .inl rfl | exact .inr rfl) (do_ op_addA ok_add (dix ix_seq ok_ix (dv 4) di) (dtup (dac (dtup (dac di (dac di danil))) danil))))
  (sfrz (i := 13) (scons (sown (i := 13) sc__law_no_table.nd rfl (by first | exact .inl rfl | exact .inr rfl) (fcat (dv 13) (dfr (flst (dac (dtup (dac (do_ op_addA ok_add (dv 4) (dtup (dac (dv 14) danil))) (dac (do_ op_addA ok_add (dv 5) (dtup (dac (dtup (dac di (dac di danil))) danil))) (dac (dv 6) (dac (dv 7) danil))))) (dac (dsl (dv 1) don (dos di)) (dac (do_ op_addA ok_add (dv 1) (dtup (dac di danil))) danil)))))))
  (sfrz (i := 13) (scons (sown (i := 13) sc__law_no_table.nd rfl (by first | exact .inl rfl | exact .inr rfl) (fcat (dv 13) (dfr (flst (dac (dtup (dac (do_ op_addA ok_add (do_ op_addA ok_add (dsl (dv 4) don (dos (dv 9))) (dtup (dac (dcty call_list_of ok_list (by rfl) T.b_list (by decide +kernel) (dac (dix ix_seq ok_ix (dv 4) (dv 9)) danil)) danil))) (dsl (dv 4) (dos (do_ op_addA ok_add (dv 9) di)) don)) (dac (dv 5) (dac (dv 6) (dac (dv 7) danil))))) (dac (dv 4) (dac di danil)))))))
  (sone (sret (dixC 13 (pv 13) (dclM 0 c__law_take hr (by decide) (by rfl) (pv 0) (dac di danil)))))))))))))))))))))))
/-! #### fraction -/
abbrev s_fraction : Stmt := topS 35
theorem sc_fraction : FnScope ["p", "q", "shared"] ["p", "q"] (defScope s_fraction) := ⟨rfl, rfl, rfl, by decide +kernel, rfl, by decide +kernel, by decide +kernel⟩
def b_fraction : DS := (sSeq (sSet 2 (dIf (dTst (dOp gGt (dVar 1) (dC (.int 0)))) (dB gGcd (aCons (dVar 0) (aCons (dVar 1) aNil))) (dUn gNeg (dB gGcd (aCons (dVar 0) (aCons (dVar 1) aNil))))))
  (sRet (dTup (aCons (dOp gDivA (dVar 0) (dVar 2)) (aCons (dOp gDivA (dVar 1) (dVar 2)) aNil)))))
def m_fraction : List PyData → Option PyData := fnP ["p", "q", "shared"] 2 b_fraction
theorem ok_fraction (F : Std K mg "fraction" s_fraction ["p", "q"]) (T : Tx K mg)  : Cal P w K mg base 1 "fraction" ["p", "q"] (spP K m_fraction) := by
  refine calP F sc_fraction (fun f cdv A outer s H E Z hr => ?_)
  unfold b_fraction
  exact (scons (sset (i := 2) sc_fraction.nd rfl (by first | exact .inl rfl | exact .inr rfl) (dif_ (dtcmp op_gt ok_gt (dv 1) di (nomark _)) (dcbf cr_gcd ok_gcd (by rfl) T.q_gcd (dac (dv 0) (dac (dv 1) danil))) (du un_neg ok_neg (dcbf cr_gcd ok_gcd (by rfl) T.q_gcd (dac (dv 0) (dac (dv 1) danil))))))
  (sone (sret (dtup (dac (do_ op_fdivA ok_divA (dv 0) (dv 2)) (dac (do_ op_fdivA ok_divA (dv 1) (dv 2)) danil))))))
/-! #### plus -/
abbrev s_plus : Stmt := topS 36
theorem sc_plus : FnScope ["one", "other"] ["one", "other"] (defScope s_plus) := ⟨rfl, rfl, rfl, by decide +kernel, rfl, by decide +kernel, by decide +kernel⟩
def b_plus : DS := (sRet (dCall m_fraction (aCons (dOp gAdd (dOp gMulB (dOp gIx (dVar 0) (dC (.int 0))) (dOp gIx (dVar 1) (dC (.int 1)))) (dOp gMulB (dOp gIx (dVar 1) (dC (.int 0))) (dOp gIx (dVar 0) (dC (.int 1))))) (aCons (dOp gMulB (dOp gIx (dVar 0) (dC (.int 1))) (dOp gIx (dVar 1) (dC (.int 1)))) aNil))))
def m_plus : List PyData → Option PyData := fnP ["one", "other"] 2 b_plus
theorem ok_plus (F : Std K mg "plus" s_plus ["one", "other"]) (T : Tx K mg) (c_fraction : Cal P w K mg base 1 "fraction" ["p", "q"] (spP K m_fraction)) : Cal P w K mg base 2 "plus" ["one", "other"] (spP K m_plus) := by
  refine calP F sc_plus (fun f cdv A outer s H E Z hr => ?_)
  unfold b_plus
  exact (sone (sret (dcl c_fraction hr (by decide) (by rfl) (dac (do_ op_addA ok_add (do_ op_mulB ok_mulB (dix ix_seq ok_ix (dv 0) di) (dix ix_seq ok_ix (dv 1) di)) (do_ op_mulB ok_mulB (dix ix_seq ok_ix (dv 1) di) (dix ix_seq ok_ix (dv 0) di))) (dac (do_ op_mulB ok_mulB (dix ix_seq ok_ix (dv 0) di) (dix ix_seq ok_ix (dv 1) di)) danil)))))
/-! #### _row_plus -/
abbrev s__row_plus : Stmt := topS 40
theorem sc__row_plus : FnScope ["row", "more", "part", "other"] ["row", "more"] (defScope s__row_plus) := ⟨rfl, rfl, rfl, by decide +kernel, rfl, by decide +kernel, by decide +kernel⟩
def b__row_plus : DS := (sRet (dB gTuple (aCons (dL (fLcT (itZB (dVar 0) (dVar 1)) [2, 3] (tgT [(tgN 2), (tgN 3)]) tYesD (dCall m_plus (aCons (dVar 2) (aCons (dVar 3) aNil))))) aNil)))
def m__row_plus : List PyData → Option PyData := fnP ["row", "more", "part", "other"] 2 b__row_plus
theorem ok__row_plus (F : Std K mg "_row_plus" s__row_plus ["row", "more"]) (T : Tx K mg) (c_plus : Cal P w K mg base 2 "plus" ["one", "other"] (spP K m_plus)) : Cal P w K mg base 3 "_row_plus" ["row", "more"] (spP K m__row_plus) := by
  refine calP F sc__row_plus (fun f cdv A outer s H E Z hr => ?_)
  unfold b__row_plus
  exact (sone (sret (dcty call_tuple_of ok_tuple (by rfl) T.b_tuple (by decide +kernel) (dac (dfr (flcT rfl sc__row_plus.nd (pizipB (by rfl) T.b_zip (dv 0) (dv 1)) (blkOk_by (own := [("part", 2), ("other", 3)]) (N := ["row", "more", "part", "other"]) (sc := defScope s__row_plus) (by decide +kernel)) (fun _ _ _ _ _ => (pg_tup rfl (pgs_cons (pg_name (i := 2) sc__row_plus.nd rfl (by first | exact .inl rfl | exact .inr rfl)) (pgs_cons (pg_name (i := 3) sc__row_plus.nd rfl (by first | exact .inl rfl | exact .inr rfl)) pgs_nil)))) (wgt rfl (wgscons (wgn (i := 2)) (wgscons (wgn (i := 3)) wgsnil))) (fun _ _ _ _ _ _ => tynil) (fun _ _ _ _ _ _ => (dcl c_plus hr (by decide) (by rfl) (dac (dv 2) (dac (dv 3) danil)))))) danil))))
/-! #### is_whole -/
abbrev s_is_whole : Stmt := topS 32
theorem sc_is_whole : FnScope ["thing"] ["thing"] (defScope s_is_whole) := ⟨rfl, rfl, rfl, by decide +kernel, rfl, by decide +kernel, by decide +kernel⟩
def b_is_whole : DS := (sRet (dAnd (dUn (gIsi "int") (dVar 0)) (dNot (dUn (gIsi "bool") (dVar 0)))))
def m_is_whole : List PyData → Option PyData := fnP ["thing"] 1 b_is_whole
theorem ok_is_whole (F : Std K mg "is_whole" s_is_whole ["thing"]) (T : Tx K mg)  : Cal P w K mg base 1 "is_whole" ["thing"] (spP K m_is_whole) := by
  refine calP F sc_is_whole (fun f cdv A outer s H E Z hr => ?_)
  unfold b_is_whole
  exact (sone (sret (dand (disi isi_int (by rfl) T.b_isinstance (by decide +kernel) (by rfl) T.b_int (by decide +kernel) (dv 0)) (pe_one (dnot (disi isi_bool (by rfl) T.b_isinstance (by decide +kernel) (by rfl) T.b_bool (by decide +kernel) (dv 0)))))))
/-! #### is_fraction -/
abbrev s_is_fraction : Stmt := topS 34
theorem sc_is_fraction : FnScope ["thing", "p", "q"] ["thing"] (defScope s_is_fraction) := ⟨rfl, rfl, rfl, by decide +kernel, rfl, by decide +kernel, by decide +kernel⟩
def b_is_fraction : DS := (sSeq (sIf (dOrT (dNotT (dTst (dUn (gIsi "tuple") (dVar 0)))) (dTst (dOp gNe (dB gLen (aCons (dVar 0) aNil)) (dC (.int 2)))))
  (sRet (dC (.bool false)))
  sNil)
  (sSeq (sAsg (dVar 0) (tgT [(tgN 1), (tgN 2)]))
  (sRet (dAnd (dCall m_is_whole (aCons (dVar 1) aNil)) (dAnd (dCall m_is_whole (aCons (dVar 2) aNil)) (dAnd (dOp gGe (dVar 2) (dC (.int 1))) (dOp gEq (dB gGcd (aCons (dVar 1) (aCons (dVar 2) aNil))) (dC (.int 1)))))))))
def m_is_fraction : List PyData → Option PyData := fnP ["thing", "p", "q"] 1 b_is_fraction
theorem ok_is_fraction (F : Std K mg "is_fraction" s_is_fraction ["thing"]) (T : Tx K mg) (c_is_whole : Cal P w K mg base 1 "is_whole" ["thing"] (spP K m_is_whole)) : Cal P w K mg base 2 "is_fraction" ["thing"] (spP K m_is_fraction) := by
  refine calP F sc_is_fraction (fun f cdv A outer s H E Z hr => ?_)
  unfold b_is_fraction
  exact (scons (sif (PW.pt (dtor (dtnot (dt (disi isi_tuple (by rfl) T.b_isinstance (by decide +kernel) (by rfl) T.b_tuple (by decide +kernel) (dv 0)))) (pw_or1 (dtcmp (op_neA hr.units) ok_ne (dcb call_len ok_len (by rfl) T.b_len boot_len (dac (dv 0) danil)) di (nomark _)))))
  (sone (sret db))
  snil)
  (scons (sasg (dv 0) (pg_tup rfl (pgs_cons (pg_name (i := 1) sc_is_fraction.nd rfl (by first | exact .inl rfl | exact .inr rfl)) (pgs_cons (pg_name (i := 2) sc_is_fraction.nd rfl (by first | exact .inl rfl | exact .inr rfl)) pgs_nil))) (tgt rfl (tgscons tgn (tgscons tgn tgsnil))))
  (sone (sret (dand (dcl c_is_whole hr (by decide) (by rfl) (dac (dv 1) danil)) (dand (dcl c_is_whole hr (by decide) (by rfl) (dac (dv 2) danil)) (dand (dcmp op_ge ok_ge (dv 2) di (nomark _)) (pe_one (dcmp (op_eqA hr.units) ok_eq (dcbf cr_gcd ok_gcd (by rfl) T.q_gcd (dac (dv 1) (dac (dv 2) danil))) di (nomark _))))))))))
/-! #### _are_fractions -/
abbrev s__are_fractions : Stmt := topS 42
theorem sc__are_fractions : FnScope ["thing", "part"] ["thing"] (defScope s__are_fractions) := ⟨rfl, rfl, rfl, by decide +kernel, rfl, by decide +kernel, by decide +kernel⟩
def b__are_fractions : DS := (sRet (dAnd (dUn (gIsi "tuple") (dVar 0)) (dAnd (dChain gLe gLe (dC (.int 1)) (dB gLen (aCons (dVar 0) aNil)) (dC d_MOST_LINES)) (dB gAll (aCons (dL (fLc (itA (dVar 0)) 1 tYesD (dCall m_is_fraction (aCons (dVar 1) aNil)))) aNil)))))
def m__are_fractions : List PyData → Option PyData := fnP ["thing", "part"] 1 b__are_fractions
theorem ok__are_fractions (F : Std K mg "_are_fractions" s__are_fractions ["thing"]) (T : Tx K mg) (c_is_fraction : Cal P w K mg base 2 "is_fraction" ["thing"] (spP K m_is_fraction)) : Cal P w K mg base 3 "_are_fractions" ["thing"] (spP K m__are_fractions) := by
  refine calP F sc__are_fractions (fun f cdv A outer s H E Z hr => ?_)
  unfold b__are_fractions
  exact (sone (sret (dand (disi isi_tuple (by rfl) T.b_isinstance (by decide +kernel) (by rfl) T.b_tuple (by decide +kernel) (dv 0)) (dand (dchain op_leA ok_le op_leA ok_le di (dcb call_len ok_len (by rfl) T.b_len boot_len (dac (dv 0) danil)) (dgc (by rfl) T.c_MOST_LINES)) (pe_one (dcb (cr_all rfl) ok_all (by rfl) T.b_all (by decide +kernel) (dac (dfr (flc rfl sc__are_fractions.nd (pia (dv 0)) (blkOk_by (own := [("part", 1)]) (N := ["thing", "part"]) (sc := defScope s__are_fractions) (by decide +kernel)) (fun _ _ _ _ _ => pg_name (i := 1) sc__are_fractions.nd rfl (by first | exact .inl rfl | exact .inr rfl)) (fun _ _ _ _ _ _ => tynil) (fun _ _ _ _ _ _ => (dcl c_is_fraction hr (by decide) (by rfl) (dac (dv 1) danil))))) danil)))))))
/-! #### _size_of -/
abbrev s__size_of : Stmt := topS 41
theorem sc__size_of : FnScope ["thing", "cells", "by_rows", "by_columns", "whole", "row"] ["thing"] (defScope s__size_of) := ⟨rfl, rfl, rfl, by decide +kernel, rfl, by decide +kernel, by decide +kernel⟩
def b__size_of : DS := (sSeq (sIf (dOrT (dNotT (dTst (dUn (gIsi "tuple") (dVar 0)))) (dTst (dOp gNe (dB gLen (aCons (dVar 0) aNil)) (dC (.int 4)))))
  (sRet (dC .none))
  sNil)
  (sSeq (sAsg (dVar 0) (tgT [(tgN 1), (tgN 2), (tgN 3), (tgN 4)]))
  (sSeq (sIf (dOrT (dNotT (dTst (dCall m__are_fractions (aCons (dVar 2) aNil)))) (dOrT (dNotT (dTst (dCall m__are_fractions (aCons (dVar 3) aNil)))) (dNotT (dTst (dCall m_is_fraction (aCons (dVar 4) aNil))))))
  (sRet (dC .none))
  sNil)
  (sSeq (sIf (dOrT (dNotT (dTst (dUn (gIsi "tuple") (dVar 1)))) (dTst (dOp gNe (dB gLen (aCons (dVar 1) aNil)) (dB gLen (aCons (dVar 2) aNil)))))
  (sRet (dC .none))
  sNil)
  (sSeq (sIf (dNotT (dTst (dB gAll (aCons (dL (fLc (itA (dVar 1)) 5 tYesD (dAnd (dCall m__are_fractions (aCons (dVar 5) aNil)) (dOp gEq (dB gLen (aCons (dVar 5) aNil)) (dB gLen (aCons (dVar 3) aNil)))))) aNil))))
  (sRet (dC .none))
  sNil)
  (sRet (dTup (aCons (dB gLen (aCons (dVar 2) aNil)) (aCons (dB gLen (aCons (dVar 3) aNil)) aNil)))))))))
def m__size_of : List PyData → Option PyData := fnP ["thing", "cells", "by_rows", "by_columns", "whole", "row"] 1 b__size_of
theorem ok__size_of (F : Std K mg "_size_of" s__size_of ["thing"]) (T : Tx K mg) (c_is_fraction : Cal P w K mg base 2 "is_fraction" ["thing"] (spP K m_is_fraction)) (c__are_fractions : Cal P w K mg base 3 "_are_fractions" ["thing"] (spP K m__are_fractions)) : Cal P w K mg base 4 "_size_of" ["thing"] (spP K m__size_of) := by
  refine calP F sc__size_of (fun f cdv A outer s H E Z hr => ?_)
  unfold b__size_of
  exact (scons (sif (PW.pt (dtor (dtnot (dt (disi isi_tuple (by rfl) T.b_isinstance (by decide +kernel) (by rfl) T.b_tuple (by decide +kernel) (dv 0)))) (pw_or1 (dtcmp (op_neA hr.units) ok_ne (dcb call_len ok_len (by rfl) T.b_len boot_len (dac (dv 0) danil)) di (nomark _)))))
  (sone (sret dn))
  snil)
  (scons (sasg (dv 0) (pg_tup rfl (pgs_cons (pg_name (i := 1) sc__size_of.nd rfl (by first | exact .inl rfl | exact .inr rfl)) (pgs_cons (pg_name (i := 2) sc__size_of.nd rfl (by first | exact .inl rfl | exact .inr rfl)) (pgs_cons (pg_name (i := 3) sc__size_of.nd rfl (by first | exact .inl rfl | exact .inr rfl)) (pgs_cons (pg_name (i := 4) sc__size_of.nd rfl (by first | exact .inl rfl | exact .inr rfl)) pgs_nil))))) (tgt rfl (tgscons tgn (tgscons tgn (tgscons tgn (tgscons tgn tgsnil))))))
  (scons (sif (PW.pt (dtor (dtnot (dt (dcl c__are_fractions hr (by decide) (by rfl) (dac (dv 2) danil)))) (dtor (dtnot (dt (dcl c__are_fractions hr (by decide) (by rfl) (dac (dv 3) danil)))) (pw_or1 (dtnot (dt (dcl c_is_fraction hr (by decide) (by rfl) (dac (dv 4) danil))))))))
  (sone (sret dn))
  snil)
  (scons (sif (PW.pt (dtor (dtnot (dt (disi isi_tuple (by rfl) T.b_isinstance (by decide +kernel) (by rfl) T.b_tuple (by decide +kernel) (dv 1)))) (pw_or1 (dtcmp (op_neA hr.units) ok_ne (dcb call_len ok_len (by rfl) T.b_len boot_len (dac (dv 1) danil)) (dcb call_len ok_len (by rfl) T.b_len boot_len (dac (dv 2) danil)) (nomark _)))))
  (sone (sret dn))
  snil)
  (scons (sif (dtnot (dt (dcb (cr_all rfl) ok_all (by rfl) T.b_all (by decide +kernel) (dac (dfr (flc rfl sc__size_of.nd (pia (dv 1)) (blkOk_by (own := [("row", 5)]) (N := ["thing", "cells", "by_rows", "by_columns", "whole", "row"]) (sc := defScope s__size_of) (by decide +kernel)) (fun _ _ _ _ _ => pg_name (i := 5) sc__size_of.nd rfl (by first | exact .inl rfl | exact .inr rfl)) (fun _ _ _ _ _ _ => tynil) (fun _ _ _ _ _ _ => (dand (dcl c__are_fractions hr (by decide) (by rfl) (dac (dv 5) danil)) (pe_one (dcmp (op_eqA hr.units) ok_eq (dcb call_len ok_len (by rfl) T.b_len boot_len (dac (dv 5) danil)) (dcb call_len ok_len (by rfl) T.b_len boot_len (dac (dv 3) danil)) (nomark _))))))) danil))))
  (sone (sret dn))
  snil)
  (sone (sret (dtup (dac (dcb call_len ok_len (by rfl) T.b_len boot_len (dac (dv 2) danil)) (dac (dcb call_len ok_len (by rfl) T.b_len boot_len (dac (dv 3) danil)) danil))))))))))
/-! #### added -/
abbrev s_added : Stmt := topS 39
theorem sc_added : FnScope ["one", "other", "cells", "row", "more"] ["one", "other"] (defScope s_added) := ⟨rfl, rfl, rfl, by decide +kernel, rfl, by decide +kernel, by decide +kernel⟩
def b_added : DSx := (xsSeq (xsIf (dOrT (dTst (dOp gIsN (dCall m__size_of (aCons (dVar 0) aNil)) (dC .none))) (dTst (dOp gNe (dCall m__size_of (aCons (dVar 0) aNil)) (dCall m__size_of (aCons (dVar 1) aNil)))))
  (xsRaise "NoTable")
  (xsUp sNil))
  (xsSeq (xsUp (sSet 2 (dB gTuple (aCons (dL (fLcT (itZB (dOp gIx (dVar 0) (dC (.int 0))) (dOp gIx (dVar 1) (dC (.int 0)))) [3, 4] (tgT [(tgN 3), (tgN 4)]) tYesD (dCall m__row_plus (aCons (dVar 3) (aCons (dVar 4) aNil))))) aNil))))
  (xsUp (sRet (dTup (aCons (dVar 2) (aCons (dCall m__row_plus (aCons (dOp gIx (dVar 0) (dC (.int 1))) (aCons (dOp gIx (dVar 1) (dC (.int 1))) aNil))) (aCons (dCall m__row_plus (aCons (dOp gIx (dVar 0) (dC (.int 2))) (aCons (dOp gIx (dVar 1) (dC (.int 2))) aNil))) (aCons (dCall m_plus (aCons (dOp gIx (dVar 0) (dC (.int 3))) (aCons (dOp gIx (dVar 1) (dC (.int 3))) aNil))) aNil)))))))))
def m_added : List PyData → Option (Rx PyData) := fnX ["one", "other", "cells", "row", "more"] 2 b_added
theorem ok_added (F : Std K mg "added" s_added ["one", "other"]) (T : Tx K mg) (Fx : ExF K mg nm_ ts_) (c__size_of : Cal P w K mg base 4 "_size_of" ["thing"] (spP K m__size_of)) (c__row_plus : Cal P w K mg base 3 "_row_plus" ["row", "more"] (spP K m__row_plus)) (c_plus : Cal P w K mg base 2 "plus" ["one", "other"] (spP K m_plus)) : CalX P w K mg base 5 "added" ["one", "other"] (spX K mg m_added) := by
  refine calX F sc_added (fun f cdv A outer s H E Z hr => ?_)
  unfold b_added
  exact (xscons (xsif (PW.pt (dtor (dtcmp op_isN ok_isN (dcl c__size_of hr (by decide) (by rfl) (dac (dv 0) danil)) dn (nomark _)) (pw_or1 (dtcmp (op_neA hr.units) ok_ne (dcl c__size_of hr (by decide) (by rfl) (dac (dv 0) danil)) (dcl c__size_of hr (by decide) (by rfl) (dac (dv 1) danil)) (nomark _)))))
  (xsone (xsraise (Fx.mak "NoTable" (by decide)) rfl (L2.takes_of rfl rfl rfl rfl) (by rfl)))
  xsnil)
  (xscons (xsup (sset (i := 2) sc_added.nd rfl (by first | exact .inl rfl | exact .inr rfl) (dcty call_tuple_of ok_tuple (by rfl) T.b_tuple (by decide +kernel) (dac (dfr (flcT rfl sc_added.nd (pizipB (by rfl) T.b_zip (dix ix_seq ok_ix (dv 0) di) (dix ix_seq ok_ix (dv 1) di)) (blkOk_by (own := [("row", 3), ("more", 4)]) (N := ["one", "other", "cells", "row", "more"]) (sc := defScope s_added) (by decide +kernel)) (fun _ _ _ _ _ => (pg_tup rfl (pgs_cons (pg_name (i := 3) sc_added.nd rfl (by first | exact .inl rfl | exact .inr rfl)) (pgs_cons (pg_name (i := 4) sc_added.nd rfl (by first | exact .inl rfl | exact .inr rfl)) pgs_nil)))) (wgt rfl (wgscons (wgn (i := 3)) (wgscons (wgn (i := 4)) wgsnil))) (fun _ _ _ _ _ _ => tynil) (fun _ _ _ _ _ _ => (dcl c__row_plus hr (by decide) (by rfl) (dac (dv 3) (dac (dv 4) danil)))))) danil))))
  (xsone (xsup (sret (dtup (dac (dv 2) (dac (dcl c__row_plus hr (by decide) (by rfl) (dac (dix ix_seq ok_ix (dv 0) di) (dac (dix ix_seq ok_ix (dv 1) di) danil))) (dac (dcl c__row_plus hr (by decide) (by rfl) (dac (dix ix_seq ok_ix (dv 0) di) (dac (dix ix_seq ok_ix (dv 1) di) danil))) (dac (dcl c_plus hr (by decide) (by rfl) (dac (dix ix_seq ok_ix (dv 0) di) (dac (dix ix_seq ok_ix (dv 1) di) danil))) danil))))))))))
/-! #### _law_word -/
abbrev s__law_word : Stmt := topS 50
theorem sc__law_word : FnScope ["_law_caught", "_law_names", "_law_some", "_law_others", "_law_word_here"] ["_law_caught"] (defScope s__law_word) := ⟨rfl, rfl, rfl, by decide +kernel, rfl, by decide +kernel, by decide +kernel⟩
def b__law_word : DS := (sSeq (sSet 1 (dL (fLst (aCons (dC (.str "form")) (aCons (dC (.str "record")) (aCons (dC (.str "round")) (aCons (dC (.str "lines")) (aCons (dC (.str "weights")) (aCons (dC (.str "fit")) (aCons (dC (.str "table")) (aCons (dC (.str "counts")) (aCons (dC (.str "places")) (aCons (dC (.str "place")) aNil)))))))))))))
  (sSeq (sOwn 2 (fLst (aCons (dUn (gIsE nm_ "NoForm") (dVar 0)) (aCons (dUn (gIsE nm_ "NoRecord") (dVar 0)) (aCons (dUn (gIsE nm_ "NoRound") (dVar 0)) aNil)))))
  (sSeq (sFrz 2) (sSeq (sOwn 2 (fCat (dVar 2) (dL (fLst (aCons (dUn (gIsE nm_ "NoLines") (dVar 0)) (aCons (dUn (gIsE nm_ "NoWeights") (dVar 0)) (aCons (dUn (gIsE nm_ "NoFit") (dVar 0)) aNil)))))))
  (sSeq (sFrz 2) (sSeq (sOwn 2 (fCat (dVar 2) (dL (fLst (aCons (dUn (gIsE nm_ "NoTable") (dVar 0)) (aCons (dUn (gIsE nm_ "NoCounts") (dVar 0)) (aCons (dUn (gIsE nm_ "NoPlaces") (dVar 0)) aNil)))))))
  (sSeq (sApp 2 (dUn (gIsE nm_ "NoPlace") (dVar 0)))
  (sSeq (sSet 3 (dL (fLst (aCons (dUn (gIsE nm_ "CannotGo") (dVar 0)) (aCons (dUn (gIsE nm_ "Clash") (dVar 0)) (aCons (dUn (gIsE nm_ "Full") (dVar 0)) aNil))))))
  (sSeq (sSet 3 (dOp gAdd (dVar 3) (dL (fLst (aCons (dUn (gIsE nm_ "NoBook") (dVar 0)) (aCons (dUn (gIsE nm_ "NoCheck") (dVar 0)) (aCons (dUn (gIsE nm_ "NoCondition") (dVar 0)) aNil)))))))
  (sSeq (sSet 3 (dOp gAdd (dVar 3) (dL (fLst (aCons (dUn (gIsE nm_ "NoEntry") (dVar 0)) (aCons (dUn (gIsE nm_ "NoFits") (dVar 0)) (aCons (dUn (gIsE nm_ "NoKey") (dVar 0)) aNil)))))))
  (sSeq (sSet 3 (dOp gAdd (dVar 3) (dL (fLst (aCons (dUn (gIsE nm_ "NoKind") (dVar 0)) (aCons (dUn (gIsE nm_ "NoLine") (dVar 0)) (aCons (dUn (gIsE nm_ "NoNames") (dVar 0)) aNil)))))))
  (sSeq (sSet 3 (dOp gAdd (dVar 3) (dL (fLst (aCons (dUn (gIsE nm_ "NoText") (dVar 0)) (aCons (dUn (gIsE nm_ "NoTotals") (dVar 0)) (aCons (dUn (gIsE nm_ "NoValue") (dVar 0)) aNil)))))))
  (sSeq (sSet 3 (dOp gAdd (dVar 3) (dL (fLst (aCons (dUn (gIsE nm_ "Stuck") (dVar 0)) (aCons (dUn (gIsE nm_ "TooWide") (dVar 0)) (aCons (dUn (gIsE nm_ "Twice") (dVar 0)) aNil)))))))
  (sSeq (sFrz 2) (sSeq (sIf (dOrT (dTst (dOp gNe (dOp gCount (dVar 2) (dC (.bool true))) (dC (.int 1)))) (dOrT (dTst (dOp (gIn false) (dC (.bool true)) (dVar 3))) (dNotT (dTst (dUn (gIsEV nm_) (dVar 0))))))
  (sRet (dC (.str "other")))
  sNil)
  (sSeq (sSet 4 (dOp gIx (dVar 1) (dOp gIndex (dVar 2) (dC (.bool true)))))
  (sSeq (sIf (dTst (dOp gEq (dVar 4) (dC (.str "form"))))
  sNo
  sNil)
  (sSeq (sIf (dTst (dOp (gIn false) (dVar 4) (dTup (aCons (dC (.str "record")) (aCons (dC (.str "fit")) aNil)))))
  sNo
  sNil)
  (sRet (dVar 4))))))))))))))))))))
def m__law_word : List PyData → Option PyData := fnP ["_law_caught", "_law_names", "_law_some", "_law_others", "_law_word_here"] 1 b__law_word
theorem ok__law_word (F : Std K mg "_law_word" s__law_word ["_law_caught"]) (T : Tx K mg) (Fx : ExF K mg nm_ ts_) : CalW P w K mg base 1 "_law_word" ["_law_caught"] (spP K m__law_word) := by
  refine calW F sc__law_word (fun f cdv A outer s H Z hr => ?_)
  unfold b__law_word
  exact (scons (sset (i := 1) sc__law_word.nd rfl (by first | exact .inl rfl | exact .inr rfl) (dfr (flst (dac ds (dac ds (dac ds (dac ds (dac ds (dac ds (dac ds (dac ds (dac ds (dac ds danil)))))))))))))
  (scons (sown (i := 2) sc__law_word.nd rfl (by first | exact .inl rfl | exact .inr rfl) (flst (dac (disX Fx (by decide) (by rfl) T.b_isinstance (by decide +kernel) (by rfl) (dv 0)) (dac (disX Fx (by decide) (by rfl) T.b_isinstance (by decide +kernel) (by rfl) (dv 0)) (dac (disX Fx (by decide) (by rfl) T.b_isinstance (by decide +kernel) (by rfl) (dv 0)) danil)))))
  (sfrz (i := 2) (scons (sown (i := 2) sc__law_word.nd rfl (by first | exact .inl rfl | exact .inr rfl) (fcat (dv 2) (dfr (flst (dac (disX Fx (by decide) (by rfl) T.b_isinstance (by decide +kernel) (by rfl) (dv 0)) (dac (disX Fx (by decide) (by rfl) T.b_isinstance (by decide +kernel) (by rfl) (dv 0)) (dac (disX Fx (by decide) (by rfl) T.b_isinstance (by decide +kernel) (by rfl) (dv 0)) danil)))))))
  (sfrz (i := 2) (scons (sown (i := 2) sc__law_word.nd rfl (by first | exact .inl rfl | exact .inr rfl) (fcat (dv 2) (dfr (flst (dac (disX Fx (by decide) (by rfl) T.b_isinstance (by decide +kernel) (by rfl) (dv 0)) (dac (disX Fx (by decide) (by rfl) T.b_isinstance (by decide +kernel) (by rfl) (dv 0)) (dac (disX Fx (by decide) (by rfl) T.b_isinstance (by decide +kernel) (by rfl) (dv 0)) danil)))))))
  (scons (sapp 2 (pv 2) (disX Fx (by decide) (by rfl) T.b_isinstance (by decide +kernel) (by rfl) (dv 0)))
  (scons (sset (i := 3) sc__law_word.nd rfl (by first | exact .inl rfl | exact .inr rfl) (dfr (flst (dac (disX Fx (by decide) (by rfl) T.b_isinstance (by decide +kernel) (by rfl) (dv 0)) (dac (disX Fx (by decide) (by rfl) T.b_isinstance (by decide +kernel) (by rfl) (dv 0)) (dac (disX Fx (by decide) (by rfl) T.b_isinstance (by decide +kernel) (by rfl) (dv 0)) danil))))))
  (scons (sset (i := 3) sc__law_word.nd rfl (by first | exact .inl rfl | exact .inr rfl) (do_ op_addA ok_add (dv 3) (dfr (flst (dac (disX Fx (by decide) (by rfl) T.b_isinstance (by decide +kernel) (by rfl) (dv 0)) (dac (disX Fx (by decide) (by rfl) T.b_isinstance (by decide +kernel) (by rfl) (dv 0)) (dac (disX Fx (by decide) (by rfl) T.b_isinstance (by decide +kernel) (by rfl) (dv 0)) danil)))))))
  (scons (sset (i := 3) sc__law_word.nd rfl (by first | exact .inl rfl | exact .inr rfl) (do_ op_addA ok_add (dv 3) (dfr (flst (dac (disX Fx (by decide) (by rfl) T.b_isinstance (by decide +kernel) (by rfl) (dv 0)) (dac (disX Fx (by decide) (by rfl) T.b_isinstance (by decide +kernel) (by rfl) (dv 0)) (dac (disX Fx (by decide) (by rfl) T.b_isinstance (by decide +kernel) (by rfl) (dv 0)) danil)))))))
  (scons (sset (i := 3) sc__law_word.nd rfl (by first | exact .inl rfl | exact .inr rfl) (do_ op_addA ok_add (dv 3) (dfr (flst (dac (disX Fx (by decide) (by rfl) T.b_isinstance (by decide +kernel) (by rfl) (dv 0)) (dac (disX Fx (by decide) (by rfl) T.b_isinstance (by decide +kernel) (by rfl) (dv 0)) (dac (disX Fx (by decide) (by rfl) T.b_isinstance (by decide +kernel) (by rfl) (dv 0)) danil)))))))
  (scons (sset (i := 3) sc__law_word.nd rfl (by first | exact .inl rfl | exact .inr rfl) (do_ op_addA ok_add (dv 3) (dfr (flst (dac (disX Fx (by decide) (by rfl) T.b_isinstance (by decide +kernel) (by rfl) (dv 0)) (dac (disX Fx (by decide) (by rfl) T.b_isinstance (by decide +kernel) (by rfl) (dv 0)) (dac (disX Fx (by decide) (by rfl) T.b_isinstance (by decide +kernel) (by rfl) (dv 0)) danil)))))))
  (scons (sset (i := 3) sc__law_word.nd rfl (by first | exact .inl rfl | exact .inr rfl) (do_ op_addA ok_add (dv 3) (dfr (flst (dac (disX Fx (by decide) (by rfl) T.b_isinstance (by decide +kernel) (by rfl) (dv 0)) (dac (disX Fx (by decide) (by rfl) T.b_isinstance (by decide +kernel) (by rfl) (dv 0)) (dac (disX Fx (by decide) (by rfl) T.b_isinstance (by decide +kernel) (by rfl) (dv 0)) danil)))))))
  (sfrz (i := 2) (scons (sif (PW.pt (dtor (dtcmp (op_neA hr.units) ok_ne (dcount (dv 2) db) di (nomark _)) (dtor (dtcmp (op_inA (huW hr)) ok_in db (dv 3) (by first | rfl | with_unfolding_all rfl)) (pw_or1 (dtnot (dt (disV Fx (by rfl) T.b_isinstance (by decide +kernel) (by rfl) T.b_ValueError (by decide +kernel) (dv 0))))))))
  (sone (sret ds))
  snil)
  (scons (sset (i := 4) sc__law_word.nd rfl (by first | exact .inl rfl | exact .inr rfl) (dix ix_seq ok_ix (dv 1) (dindex (dv 2) db)))
  (scons (sif (dtcmp (op_eqA hr.units) ok_eq (dv 4) ds (nomark _))
  (sone sno)
  snil)
  (scons (sif (dtcmp (op_inA (huW hr)) ok_in (dv 4) (dtup (dac ds (dac ds danil))) (by first | rfl | with_unfolding_all rfl))
  (sone sno)
  snil)
  (sone (sret (dv 4)))))))))))))))))))))
/-! #### _law_met -/
abbrev s__law_met : Stmt := topS 53
theorem sc__law_met : FnScope ["_law_one", "_law_other", "e"] ["_law_one", "_law_other"] (defScope s__law_met) := ⟨rfl, rfl, rfl, by decide +kernel, rfl, by decide +kernel, by decide +kernel⟩
def b__law_met : DS := (sSeq (sTryW nm_ 2 (xsDrop (xCall m_added (aCons (dVar 0) (aCons (dVar 1) aNil))))
  (sRet (dCall m__law_word (aCons (dVar 2) aNil))))
  (sRet (dC (.str "told"))))
def m__law_met : List PyData → Option PyData := fnP ["_law_one", "_law_other", "e"] 2 b__law_met
theorem ok__law_met (F : Std K mg "_law_met" s__law_met ["_law_one", "_law_other"]) (T : Tx K mg) (Fx : ExF K mg nm_ ts_) (c_added : CalX P w K mg base 5 "added" ["one", "other"] (spX K mg m_added)) (c__law_word : CalW P w K mg base 1 "_law_word" ["_law_caught"] (spP K m__law_word)) : Cal P w K mg base 6 "_law_met" ["_law_one", "_law_other"] (spP K m__law_met) := by
  refine calP F sc__law_met (fun f cdv A outer s H E Z hr => ?_)
  unfold b__law_met
  exact (scons (stryw Fx (nmd_of Fx) sc__law_met.nd rfl (by rfl) (by rfl) (fun W pn xe tk _ => (xsone (xsdrop (xcl tk c_added hr (by decide) (by rfl) (dac (dv 0) (dac (dv 1) danil))))))
  (fun a pl => (sone (sret (dclW c__law_word (warmR hr) (by decide) (by rfl) (dac (dv 2) danil))))))
  (sone (sret ds)))
/-! #### law -/
abbrev s_law : Stmt := topS 54
theorem sc_law : FnScope ["_law_script", "_law_k", "_law_pot_here", "_law_many", "_law_wide", "_law_one", "_law_other", "_law_due_here", "_law_turn", "_law_odd", "_law_far", "_law_broad", "_law_met_here", "~tab"] ["_law_script"] (defScope s_law) := ⟨rfl, rfl, rfl, by decide +kernel, rfl, by decide +kernel, by decide +kernel⟩
def b_law : DS := (sSeq (sFor (itR1 (dB gMax2 (aCons (dC (.int 1)) (aCons (dB gMin (aCons (dC (.int 12)) (aCons (dB gLen (aCons (dVar 0) aNil)) aNil))) aNil)))) (tgN 1)
  (sSeq (sOwn 2 (fCall m__law_pot (aCons (dVar 0) (aCons (dVar 1) aNil))))
  (sSeq (sPar 3 4 (dOp gAdd (dC (.int 1)) (dCallM m__law_take 2 (aCons (dC (.int 8)) aNil))) (dOp gAdd (dC (.int 1)) (dCallM m__law_take 2 (aCons (dC (.int 8)) aNil))))
  (sSeq (sPar 5 6 (dCallMT 0 qt__law_table m__law_table 2 (aCons (dVar 3) (aCons (dVar 4) aNil))) (dCallMT 0 qt__law_table m__law_table 2 (aCons (dVar 3) (aCons (dVar 4) aNil))))
  (sSeq (sSet 7 (dB gRepr (aCons (dCall m__law_due (aCons (dVar 5) (aCons (dVar 6) aNil))) aNil)))
  (sSeq (sIf (dOrT (dTst (dOp gNe (dB gRepr (aCons (dCall (okOf m_added) (aCons (dVar 5) (aCons (dVar 6) aNil))) aNil)) (dVar 7))) (dTst (dOp gNe (dB gRepr (aCons (dCall (okOf m_added) (aCons (dVar 6) (aCons (dVar 5) aNil))) aNil)) (dVar 7))))
  (sRet (dC (.bool false)))
  sNil)
  (sSeq (sFor (itR1 (dC (.int 4))) (tgN 8)
  (sSeq (sSet 9 (dCallM m__law_no_table 2 (aCons (dVar 5) (aCons (dVar 3) (aCons (dVar 4) aNil)))))
  (sIf (dTst (dOp gNe (dL (fLst (aCons (dCall m__law_met (aCons (dVar 9) (aCons (dVar 6) aNil))) (aCons (dCall m__law_met (aCons (dVar 6) (aCons (dVar 9) aNil))) (aCons (dCall m__law_met (aCons (dVar 9) (aCons (dVar 9) aNil))) aNil))))) (dOp gMulB (dL (fLst (aCons (dC (.str "table")) aNil))) (dC (.int 3)))))
  (sRet (dC (.bool false)))
  sNil)))
  (sSeq (sSet 10 (dCallMT 0 qt__law_table m__law_table 2 (aCons (dOp gAdd (dOp gMod (dVar 3) (dC (.int 8))) (dC (.int 1))) (aCons (dVar 4) aNil))))
  (sSeq (sSet 11 (dCallMT 0 qt__law_table m__law_table 2 (aCons (dVar 3) (aCons (dOp gAdd (dOp gMod (dVar 4) (dC (.int 8))) (dC (.int 1))) aNil))))
  (sSeq (sSet 12 (dL (fLst (aCons (dCall m__law_met (aCons (dVar 5) (aCons (dVar 10) aNil))) (aCons (dCall m__law_met (aCons (dVar 10) (aCons (dVar 5) aNil))) (aCons (dCall m__law_met (aCons (dVar 5) (aCons (dVar 11) aNil))) (aCons (dCall m__law_met (aCons (dVar 11) (aCons (dVar 5) aNil))) aNil)))))))
  (sSeq (sIf (dTst (dOp gNe (dVar 12) (dOp gMulB (dL (fLst (aCons (dC (.str "table")) aNil))) (dC (.int 4)))))
  (sRet (dC (.bool false)))
  sNil)
  (sIf (dTst (dOp gNe (dB gRepr (aCons (dCall (okOf m_added) (aCons (dVar 5) (aCons (dVar 5) aNil))) aNil)) (dB gRepr (aCons (dCall m__law_due (aCons (dVar 5) (aCons (dVar 5) aNil))) aNil))))
  (sRet (dC (.bool false)))
  sNil))))))))))))
  (sRet (dC (.bool true))))
def m_law : List PyData → Option PyData := fnP ["_law_script", "_law_k", "_law_pot_here", "_law_many", "_law_wide", "_law_one", "_law_other", "_law_due_here", "_law_turn", "_law_odd", "_law_far", "_law_broad", "_law_met_here", "~tab"] 1 b_law
theorem ok_law (T : Tx K mg) (Fx : ExF K mg nm_ ts_) {Tb_0 : Addr} (c__law_pot : Cal P w K mg base 1 "_law_pot" ["_law_script", "_law_k"] (spF K m__law_pot)) (c__law_take : Cal P w K mg base 1 "_law_take" ["_law_pot_here", "_law_many"] (spM K m__law_take)) (c__law_table : Cal P w K mg base 3 "_law_table" ["_law_pot_here", "_law_many", "_law_wide"] (spMT K Tb_0 qt__law_table m__law_table)) (c__law_due : Cal P w K mg base 3 "_law_due" ["_law_one", "_law_other"] (spP K m__law_due)) (c_added : CalX P w K mg base 5 "added" ["one", "other"] (spX K mg m_added)) (c__law_no_table : Cal P w K mg base 2 "_law_no_table" ["_law_pot_here", "_law_table_here", "_law_many", "_law_wide"] (spM K m__law_no_table)) (c__law_met : Cal P w K mg base 6 "_law_met" ["_law_one", "_law_other"] (spP K m__law_met)) (f c : Addr) (A : Around) (outer : List Env) (s : Shared) (H : Hp) (E : XK) (Z : Par) (hr : Room 7 (A.deeper (envOfC "law" (defScope s_law) s.heap.objs.size f (.ref c)))) (cg : CG (cxOf CX0 P w K mg base ["_law_script", "_law_k", "_law_pot_here", "_law_many", "_law_wide", "_law_one", "_law_other", "_law_due_here", "_law_turn", "_law_odd", "_law_far", "_law_broad", "_law_met_here", "~tab"] "law" (defScope s_law) f (.ref c) A outer s H E).nox) (hZ_0 : Z.p[0]? = some Tb_0) : PSs (cxOf CX0 P w K mg base ["_law_script", "_law_k", "_law_pot_here", "_law_many", "_law_wide", "_law_one", "_law_other", "_law_due_here", "_law_turn", "_law_odd", "_law_far", "_law_broad", "_law_met_here", "~tab"] "law" (defScope s_law) f (.ref c) A outer s H E).nox (defBody s_law) (lfS K Z b_law) := by
  unfold b_law
  exact (scons (sfor PassesOwn.never rfl (pir1 (by rfl) T.b_range (dcb (call_max2 rfl) ok_max2 (by rfl) T.b_max (by decide +kernel) (dac di (dac (dcb (call_minA rfl) ok_minA (by rfl) T.b_min (by decide +kernel) (dac di (dac (dcb call_len ok_len (by rfl) T.b_len boot_len (dac (dv 0) danil)) danil))) danil)))) (pg_name (i := 1) sc_law.nd rfl (by first | exact .inl rfl | exact .inr rfl)) tgn
  (scons (sown (i := 2) sc_law.nd rfl (by first | exact .inl rfl | exact .inr rfl) (fcl c__law_pot hr (by decide) (by rfl) (dac (dv 0) (dac (dv 1) danil))))
  (scons (spar (i := 3) (j := 4) rfl sc_law.nd rfl rfl (by decide) rfl rfl (do_ op_addA ok_add di (dclM 2 c__law_take hr (by decide) (by rfl) (pv 2) (dac di danil))) (do_ op_addA ok_add di (dclM 2 c__law_take hr (by decide) (by rfl) (pv 2) (dac di danil))) (by rfl))
  (scons (spar (i := 5) (j := 6) rfl sc_law.nd rfl rfl (by decide) rfl rfl (dclMT 2 c__law_table hZ_0 hr (by decide) (by rfl) (pv 2) (dac (dv 3) (dac (dv 4) danil))) (dclMT 2 c__law_table hZ_0 hr (by decide) (by rfl) (pv 2) (dac (dv 3) (dac (dv 4) danil))) (by rfl))
  (scons (sset (i := 7) sc_law.nd rfl (by first | exact .inl rfl | exact .inr rfl) (dcb (call_repr cg) ok_repr (by rfl) T.b_repr (by decide +kernel) (dac (dcl c__law_due hr (by decide) (by rfl) (dac (dv 5) (dac (dv 6) danil))) danil)))
  (scons (sif (PW.pt (dtor (dtcmp (op_neA hr.units) ok_ne (dcb (call_repr cg) ok_repr (by rfl) T.b_repr (by decide +kernel) (dac (dclX c_added hr (by decide) (by rfl) (dac (dv 5) (dac (dv 6) danil))) danil)) (dv 7) (nomark _)) (pw_or1 (dtcmp (op_neA hr.units) ok_ne (dcb (call_repr cg) ok_repr (by rfl) T.b_repr (by decide +kernel) (dac (dclX c_added hr (by decide) (by rfl) (dac (dv 6) (dac (dv 5) danil))) danil)) (dv 7) (nomark _)))))
  (sone (sret db))
  snil)
  (scons (sfor PassesOwn.never rfl (pir1 (by rfl) T.b_range di) (pg_name (i := 8) sc_law.nd rfl (by first | exact .inl rfl | exact .inr rfl)) tgn
  (scons (sset (i := 9) sc_law.nd rfl (by first | exact .inl rfl | exact .inr rfl) (dclM 2 c__law_no_table hr (by decide) (by rfl) (pv 2) (dac (dv 5) (dac (dv 3) (dac (dv 4) danil)))))
  (sone (sif (dtcmp (op_neA hr.units) ok_ne (dfr (flst (dac (dcl c__law_met hr (by decide) (by rfl) (dac (dv 9) (dac (dv 6) danil))) (dac (dcl c__law_met hr (by decide) (by rfl) (dac (dv 6) (dac (dv 9) danil))) (dac (dcl c__law_met hr (by decide) (by rfl) (dac (dv 9) (dac (dv 9) danil))) danil))))) (do_ op_mulB ok_mulB (dfr (flst (dac ds danil))) di) (nomark _))
  (sone (sret db))
  snil))))
  (scons (sset (i := 10) sc_law.nd rfl (by first | exact .inl rfl | exact .inr rfl) (dclMT 2 c__law_table hZ_0 hr (by decide) (by rfl) (pv 2) (dac (do_ op_addA ok_add (do_ op_mod ok_mod (dv 3) di) di) (dac (dv 4) danil))))
  (scons (sset (i := 11) sc_law.nd rfl (by first | exact .inl rfl | exact .inr rfl) (dclMT 2 c__law_table hZ_0 hr (by decide) (by rfl) (pv 2) (dac (dv 3) (dac (do_ op_addA ok_add (do_ op_mod ok_mod (dv 4) di) di) danil))))
  (scons (sset (i := 12) sc_law.nd rfl (by first | exact .inl rfl | exact .inr rfl) (dfr (flst (dac (dcl c__law_met hr (by decide) (by rfl) (dac (dv 5) (dac (dv 10) danil))) (dac (dcl c__law_met hr (by decide) (by rfl) (dac (dv 10) (dac (dv 5) danil))) (dac (dcl c__law_met hr (by decide) (by rfl) (dac (dv 5) (dac (dv 11) danil))) (dac (dcl c__law_met hr (by decide) (by rfl) (dac (dv 11) (dac (dv 5) danil))) danil)))))))
  (scons (sif (dtcmp (op_neA hr.units) ok_ne (dv 12) (do_ op_mulB ok_mulB (dfr (flst (dac ds danil))) di) (nomark _))
  (sone (sret db))
  snil)
  (sone (sif (dtcmp (op_neA hr.units) ok_ne (dcb (call_repr cg) ok_repr (by rfl) T.b_repr (by decide +kernel) (dac (dclX c_added hr (by decide) (by rfl) (dac (dv 5) (dac (dv 5) danil))) danil)) (dcb (call_repr cg) ok_repr (by rfl) T.b_repr (by decide +kernel) (dac (dcl c__law_due hr (by decide) (by rfl) (dac (dv 5) (dac (dv 5) danil))) danil)) (nomark _))
  (sone (sret db))
  snil)))))))))))))
  (sone (sret db)))
end
end K62

namespace K62
open PySem PySem.Spec PyProof.Rows L2 Dl
def fn_ : List He.DefD := [dOf "_law_pot" s__law_pot, dOf "_law_take" s__law_take, dOf "_law_fraction" s__law_fraction, dOf "_law_table" s__law_table, dOf "_law_plus" s__law_plus, dOf "_law_due" s__law_due, dOf "_law_no_table" s__law_no_table, dOf "fraction" s_fraction, dOf "plus" s_plus, dOf "_row_plus" s__row_plus, dOf "is_whole" s_is_whole, dOf "is_fraction" s_is_fraction, dOf "_are_fractions" s__are_fractions, dOf "_size_of" s__size_of, dOf "added" s_added, dOf "_law_word" s__law_word, dOf "_law_met" s__law_met, dOf "law" s_law]
def fa_ : List He.Fa := [.glo "_law_pot", .glo "_law_take", .glo "_law_fraction", .glo "_law_table", .glo "_law_plus", .glo "_law_due", .glo "_law_no_table", .glo "fraction", .glo "plus", .glo "_row_plus", .glo "is_whole", .glo "is_fraction", .glo "_are_fractions", .glo "_size_of", .glo "added", .glo "_law_word", .glo "_law_met", .glo "law", .free "ValueError", .free "abs", .free "all", .free "bool", .free "int", .free "isinstance", .free "len", .free "list", .free "max", .free "min", .free "range", .free "repr", .free "tuple", .free "zip"]
def cs_ : List (Str × PyData) := [("MOST_LINES", d_MOST_LINES)]
def names_0 : List Str := [("AskError" : Str), ("NoKind" : Str), ("NoValue" : Str), ("NoCondition" : Str), ("NoKey" : Str), ("TooWide" : Str), ("Stuck" : Str), ("NoBook" : Str), ("Clash" : Str), ("Full" : Str), ("NoNames" : Str), ("NoEntry" : Str), ("NoCheck" : Str), ("Twice" : Str), ("NoLines" : Str), ("NoRound" : Str), ("NoWeights" : Str), ("NoTable" : Str), ("NoFits" : Str), ("NoTotals" : Str), ("NoCounts" : Str), ("NoPlaces" : Str), ("NoPlace" : Str), ("NoText" : Str), ("NoLine" : Str), ("NoForm" : Str), ("CannotGo" : Str), ("NoRecord" : Str), ("NoFit" : Str), ("is_whole" : Str), ("is_fraction" : Str), ("fraction" : Str), ("plus" : Str), ("MOST_LINES" : Str), ("added" : Str), ("_row_plus" : Str), ("_size_of" : Str), ("_are_fractions" : Str), ("_law_pot" : Str), ("_law_take" : Str)]
def names_1 : List Str := [("_law_fraction" : Str), ("_law_plus" : Str), ("_law_total" : Str), ("_law_table" : Str), ("_law_word" : Str), ("_law_due" : Str), ("_law_no_table" : Str), ("_law_met" : Str)]
def names_ : List Str := names_0 ++ names_1
abbrev R_ : PySem.W.OpenRow := PySem.W.OpenLaw.row PySem.Challenge.rw_askround_k62_tables_added
def bs_ : List (Str × String) := [("gcd", "math.gcd")]
def dd_ : He.Defn := ("_law_table", none)
abbrev hk_ : PySem.W.Hook := He.hookX 5 fa_ fn_ [] [dd_] (exBn cs_ bs_ nm_ ts_)
def ob_ (s : PySem.W.SharedT) : He.AlX := He.obsX 5 fa_ fn_ [] [dd_] (exBn cs_ bs_ nm_ ts_) (HandSHeadRun.getT s)
theorem ob_eq (s : PySem.W.SharedT) : ob_ s = hk_.obs s.abs := He.obsX_eq (HandSHeadRun.getT_eq s)
theorem run_ (w : World) : HandSHeadRun.RunEqI R_ (PySem.W.view R_.prog [0, 54]) hk_ ob_ 30000 names_ w := by
  show _ = _
  kernel_rfl
theorem facts_ (w : World) (mg : Str → Option Value) (h : Heap) (K : PySem.W.Frag) (X : K.In h) (G : h.Ns mainGlobals mg) (c_ : He.SaysD fa_ fn_ K) (cc : cs_.all (gcB K) = true) (bb : bs_.all (bnB K) = true) (Fx : ExF K mg nm_ ts_) : ∃ fd : FuncData, mg "law" = some (.ref (He.fAd K lawD)) ∧ Fun K "law" "law" s_law (He.fAd K lawD) fd ∧ (∀ (s : Shared) (u : Value), BindsTo s fd ⟨[u], []⟩ [("_law_script", u)]) ∧
      ∀ (base : Heap) (c T : Addr) (s : Shared) (H : Hp) (Z : Par), Mod K mg base → Room 7 (callerA.deeper (envOfC "law" (defScope s_law) s.heap.objs.size (He.fAd K lawD) (.ref c))) → CG (cxOf CX0 R_.prog w K mg base ["_law_script", "_law_k", "_law_pot_here", "_law_many", "_law_wide", "_law_one", "_law_other", "_law_due_here", "_law_turn", "_law_odd", "_law_far", "_law_broad", "_law_met_here", "~tab"] "law" (defScope s_law) (He.fAd K lawD) (.ref c) callerA [] s H E0).nox → LamX.TabB base mg (He.codeOf K dd_) T → Z.p[0]? = some T →
        PSs (cxOf CX0 R_.prog w K mg base ["_law_script", "_law_k", "_law_pot_here", "_law_many", "_law_wide", "_law_one", "_law_other", "_law_due_here", "_law_turn", "_law_odd", "_law_far", "_law_broad", "_law_met_here", "~tab"] "law" (defScope s_law) (He.fAd K lawD) (.ref c) callerA [] s H E0).nox (defBody s_law) (lfS K Z b_law) := by
  have T : Tx K mg := ⟨free_of X G c_ 18, free_of X G c_ 19, free_of X G c_ 20, free_of X G c_ 21, free_of X G c_ 22, free_of X G c_ 23, free_of X G c_ 24, free_of X G c_ 25, free_of X G c_ 26, free_of X G c_ 27, free_of X G c_ 28, free_of X G c_ 29, free_of X G c_ 30, free_of X G c_ 31, const_of X G cc 0, bn_of X G bb 0⟩
  have F__law_pot : Std K mg "_law_pot" s__law_pot ["_law_script", "_law_k"] := std_of X G c_ 0 0 rfl rfl (fun _ _ _ _ _ _ us hl => match us, hl with | [_, _], _ => rfl)
  have F__law_take : Std K mg "_law_take" s__law_take ["_law_pot_here", "_law_many"] := std_of X G c_ 1 1 rfl rfl (fun _ _ _ _ _ _ us hl => match us, hl with | [_, _], _ => rfl)
  have F__law_fraction : Std K mg "_law_fraction" s__law_fraction ["_law_p", "_law_q"] := std_of X G c_ 2 2 rfl rfl (fun _ _ _ _ _ _ us hl => match us, hl with | [_, _], _ => rfl)
  have F__law_table : Std K mg "_law_table" s__law_table ["_law_pot_here", "_law_many", "_law_wide"] := std_of X G c_ 3 3 rfl rfl (fun _ _ _ _ _ _ us hl => match us, hl with | [_, _, _], _ => rfl)
  have F__law_plus : Std K mg "_law_plus" s__law_plus ["_law_one", "_law_other"] := std_of X G c_ 4 4 rfl rfl (fun _ _ _ _ _ _ us hl => match us, hl with | [_, _], _ => rfl)
  have F__law_due : Std K mg "_law_due" s__law_due ["_law_one", "_law_other"] := std_of X G c_ 5 5 rfl rfl (fun _ _ _ _ _ _ us hl => match us, hl with | [_, _], _ => rfl)
  have F__law_no_table : Std K mg "_law_no_table" s__law_no_table ["_law_pot_here", "_law_table_here", "_law_many", "_law_wide"] := std_of X G c_ 6 6 rfl rfl (fun _ _ _ _ _ _ us hl => match us, hl with | [_, _, _, _], _ => rfl)
  have F_fraction : Std K mg "fraction" s_fraction ["p", "q"] := std_of X G c_ 7 7 rfl rfl (fun _ _ _ _ _ _ us hl => match us, hl with | [_, _], _ => rfl)
  have F_plus : Std K mg "plus" s_plus ["one", "other"] := std_of X G c_ 8 8 rfl rfl (fun _ _ _ _ _ _ us hl => match us, hl with | [_, _], _ => rfl)
  have F__row_plus : Std K mg "_row_plus" s__row_plus ["row", "more"] := std_of X G c_ 9 9 rfl rfl (fun _ _ _ _ _ _ us hl => match us, hl with | [_, _], _ => rfl)
  have F_is_whole : Std K mg "is_whole" s_is_whole ["thing"] := std_of X G c_ 10 10 rfl rfl (fun _ _ _ _ _ _ us hl => match us, hl with | [_], _ => rfl)
  have F_is_fraction : Std K mg "is_fraction" s_is_fraction ["thing"] := std_of X G c_ 11 11 rfl rfl (fun _ _ _ _ _ _ us hl => match us, hl with | [_], _ => rfl)
  have F__are_fractions : Std K mg "_are_fractions" s__are_fractions ["thing"] := std_of X G c_ 12 12 rfl rfl (fun _ _ _ _ _ _ us hl => match us, hl with | [_], _ => rfl)
  have F__size_of : Std K mg "_size_of" s__size_of ["thing"] := std_of X G c_ 13 13 rfl rfl (fun _ _ _ _ _ _ us hl => match us, hl with | [_], _ => rfl)
  have F_added : Std K mg "added" s_added ["one", "other"] := std_of X G c_ 14 14 rfl rfl (fun _ _ _ _ _ _ us hl => match us, hl with | [_, _], _ => rfl)
  have F__law_word : Std K mg "_law_word" s__law_word ["_law_caught"] := std_of X G c_ 15 15 rfl rfl (fun _ _ _ _ _ _ us hl => match us, hl with | [_], _ => rfl)
  have F__law_met : Std K mg "_law_met" s__law_met ["_law_one", "_law_other"] := std_of X G c_ 16 16 rfl rfl (fun _ _ _ _ _ _ us hl => match us, hl with | [_, _], _ => rfl)
  have F_law : Std K mg "law" s_law ["_law_script"] := std_of X G c_ 17 17 rfl rfl (fun _ _ _ _ _ _ us hl => match us, hl with | [_], _ => rfl)
  obtain ⟨f, fd, F, m, b⟩ := F_law
  obtain rfl : f = He.fAd K lawD := Value.ref.inj (Option.some.inj (m.symm.trans (He.glo_ok X G (c_.fact 17 rfl))))
  have bt : ∀ (s : Shared) (u : Value), BindsTo s fd ⟨[u], []⟩ [("_law_script", u)] := fun s u => by
    obtain ⟨⟨_, _, _, _, _, _, _, _, _, e, _⟩, _⟩ := F
    subst e
    exact .of_eq rfl
  refine ⟨fd, m, F, bt, fun base c Tb s H Z _ hr cg TB hZ => ?_⟩
  have c__law_pot := ok__law_pot (P := R_.prog) (w := w) (base := base) F__law_pot  T  
  have c__law_take := ok__law_take (P := R_.prog) (w := w) (base := base) F__law_take  T  
  have c__law_fraction := ok__law_fraction (P := R_.prog) (w := w) (base := base) F__law_fraction  T  
  have c__law_table := ok__law_table (P := R_.prog) (w := w) (base := base) F__law_table T TB (code_at (He.glo_ok X G (c_.fact 3 rfl))) c__law_take c__law_fraction
  have c__law_plus := ok__law_plus (P := R_.prog) (w := w) (base := base) F__law_plus  T  c__law_fraction
  have c__law_due := ok__law_due (P := R_.prog) (w := w) (base := base) F__law_due  T  c__law_plus
  have c__law_no_table := ok__law_no_table (P := R_.prog) (w := w) (base := base) F__law_no_table  T  c__law_take
  have c_fraction := ok_fraction (P := R_.prog) (w := w) (base := base) F_fraction  T  
  have c_plus := ok_plus (P := R_.prog) (w := w) (base := base) F_plus  T  c_fraction
  have c__row_plus := ok__row_plus (P := R_.prog) (w := w) (base := base) F__row_plus  T  c_plus
  have c_is_whole := ok_is_whole (P := R_.prog) (w := w) (base := base) F_is_whole  T  
  have c_is_fraction := ok_is_fraction (P := R_.prog) (w := w) (base := base) F_is_fraction  T  c_is_whole
  have c__are_fractions := ok__are_fractions (P := R_.prog) (w := w) (base := base) F__are_fractions  T  c_is_fraction
  have c__size_of := ok__size_of (P := R_.prog) (w := w) (base := base) F__size_of  T  c_is_fraction c__are_fractions
  have c_added := ok_added (P := R_.prog) (w := w) (base := base) F_added  T Fx c__size_of c__row_plus c_plus
  have c__law_word := ok__law_word (P := R_.prog) (w := w) (base := base) F__law_word  T Fx 
  have c__law_met := ok__law_met (P := R_.prog) (w := w) (base := base) F__law_met  T Fx c_added c__law_word
  exact ok_law T Fx  c__law_pot c__law_take c__law_table c__law_due c_added c__law_no_table c__law_met (He.fAd K lawD) c callerA [] s H E0 Z hr cg hZ
end K62

namespace K62
open PySem PySem.Spec PyProof.Rows L2 Dl
local macro_rules | `(tactic| decreasing_trivial_pre_omega) => `(tactic| (first | with_reducible refine s_seq ?_ | with_reducible refine s_if ?_ | with_reducible refine s_set ?_ | with_reducible refine s_setIx ?_ | with_reducible refine s_ret ?_ | with_reducible refine s_nil ?_ | with_reducible refine s_own ?_ | with_reducible refine s_par ?_ | with_reducible refine t_tst ?_ | with_reducible refine t_and ?_ | with_reducible refine t_or ?_ | with_reducible refine t_not ?_ | with_reducible refine t_yes ?_ | with_reducible refine e_op ?_ | with_reducible refine e_un ?_ | with_reducible refine e_chain ?_ | with_reducible refine e_b ?_ | with_reducible refine e_c ?_ | with_reducible refine e_l ?_ | with_reducible refine e_tup ?_ | with_reducible refine e_call ?_ | with_reducible refine e_and ?_ | with_reducible refine e_or ?_ | with_reducible refine e_not ?_ | with_reducible refine e_if ?_ | with_reducible refine e_sl ?_ | with_reducible refine o_n ?_ | with_reducible refine o_s ?_ | with_reducible refine a_nil ?_ | with_reducible refine a_cons ?_ | with_reducible refine f_lst ?_ | with_reducible refine f_call ?_ | with_reducible refine f_itA ?_ | with_reducible refine f_r1 ?_ | with_reducible refine r_seq ?_ | with_reducible refine n_add ?_ | with_reducible refine n_sub ?_ | with_reducible refine n_gt ?_ | with_reducible refine n_ge ?_ | with_reducible refine n_lt ?_ | with_reducible refine n_le ?_ | with_reducible refine e_var (by with_unfolding_all rfl) ?_ | with_reducible refine e_ixc (by with_unfolding_all rfl) ?_ | with_reducible refine e_callM (by with_unfolding_all rfl) ?_ | with_reducible refine s_frz (by with_unfolding_all rfl) ?_ | with_reducible refine s_app (by with_unfolding_all rfl) ?_ | refine Or.inl ⟨by first | with_reducible rfl | with_reducible exact Bool.not_false, ?_⟩ | refine Or.inr ⟨by first | with_reducible rfl | with_reducible exact Bool.not_true, ?_⟩ | refine Exists.intro _ (Exists.intro _ ⟨rfl, rfl, gd rfl ?_⟩) | refine Exists.intro _ ⟨rfl, ?_⟩))
local macro_rules | `(tactic| decreasing_trivial) => `(tactic| repeat decreasing_trivial_pre_omega)
/-- a pot of numbers after at most n takings -/
def Pot (n : Nat) (pd : List PyData) : Prop := ∃ a b c : Int, pd = [.int a, .int b, .int c] ∧ 0 ≤ a ∧ a < 10 ^ 600 ∧ 0 ≤ b ∧ b < 2 ^ 61 ∧ 0 ≤ c ∧ c ≤ n
theorem Pot.mono {n m : Nat} {pd : List PyData} (h : Pot n pd) (e : n ≤ m) : Pot m pd := by
  obtain ⟨a, b, c, e1, h1, h2, h3, h4, h5, h6⟩ := h
  exact ⟨a, b, c, e1, h1, h2, h3, h4, h5, by omega⟩
theorem take_ok {n : Nat} {pd : List PyData} {m : Int} (h : Pot n pd) (hn : n < 1000000) (hm : 1 ≤ m) (hM : m ≤ 2 ^ 60) :
    Gd (m__law_take pd [.int m]) fun q => ∃ r : Int, q.1 = .int r ∧ 0 ≤ r ∧ r < m ∧ Pot (n + 1) q.2 := by
  obtain ⟨a, b, c, rfl, h1, h2, h3, h4, h5, h6⟩ := h
  unfold m__law_take
  refine m_fnM rfl ?_
  unfold b__law_take
  decreasing_trivial
  by_cases pos : 0 < a
  · refine .inl ⟨decide_eq_true pos, ?_⟩
    decreasing_trivial
    refine n_mod (by omega) fun l1 l2 => ?_
    decreasing_trivial
    refine n_divA (by omega) (by omega) ?_
    decreasing_trivial
    have q0 : 0 ≤ a / m := Int.ediv_nonneg h1 (by omega)
    have q1 : a / m ≤ a := Int.ediv_le_self m h1
    exact ⟨l1, l2, a / m, b, c, rfl, q0, Int.lt_of_le_of_lt q1 h2, h3, h4, h5, by omega⟩
  · refine .inr ⟨decide_eq_false pos, ?_⟩
    decreasing_trivial
    have e1 : (1 : Int) ≤ c + 1 ∧ c + 1 ≤ 1000000 := by omega
    refine n_mul 40 (by decide) (by decide) (by omega) (by omega) (by decide) (by decide) ?_
    decreasing_trivial
    refine n_pow (b := 3) 62 (by omega) (by omega) (by decide) (by decide) fun p => ?_
    decreasing_trivial
    refine n_mod (by decide) fun l1 l2 => ?_
    decreasing_trivial
    refine n_mod (by decide) fun l3 l4 => ?_
    decreasing_trivial
    refine n_mul 40 (by decide) (by decide) (by omega) (by omega) (by decide) (by decide) ?_
    decreasing_trivial
    refine n_pow (b := 5) 63 (by omega) (by omega) (by decide) (by decide) fun p => ?_
    decreasing_trivial
    refine n_mod (by decide) fun l1 l2 => ?_
    decreasing_trivial
    refine n_divA (by decide) (by decide) ?_
    decreasing_trivial
    refine n_mod (by omega) fun l1 l2 => ?_
    decreasing_trivial
    exact ⟨l1, l2, a, b, c + 1, rfl, h1, h2, h3, h4, by omega, by omega⟩
theorem atI_map {ns : List Int} {k : Nat} (h : k < ns.length) : atI (ns.map PyData.int) (k : Int) = some (.int ns[k]) := by
  unfold atI
  have e : ixN (ns.map PyData.int).length (k : Int) = some k := by
    unfold ixN
    rw [List.length_map]
    split <;> rename_i c
    · simp [h]
    · omega
  rw [e]
  simp [List.getElem?_map, h]
theorem pot_ok {ns : List Int} {k : Nat} (hk : k < 100) : Gd (m__law_pot [.dict [(.none, .list (ns.map .int))], .int k]) fun pd => Pot 0 pd := by
  unfold m__law_pot
  refine m_fnF rfl ?_
  unfold b__law_pot
  have fin : ∀ x : Int, 0 ≤ x → x < 10 ^ 600 → Ge ((fLst (aCons (dOp gMulB (dVar 2) (dB gInt1 (aCons (dOp gGe (dVar 2) (dOp gPow (dC (.int 10)) (dC (.int 18)))) aNil))) (aCons (dOp gMod (dOp gPow (dOp gAdd (dOp gAdd (dOp gMod (dVar 2) (dC (.int 2147483629))) (dOp gMulB (dC (.int 7919)) (dVar 1))) (dC (.int 1))) (dC (.int 5))) (dC (.int 2305843009213693951))) (aCons (dC (.int 0)) aNil))))
      [.dat (.dict [(.none, .list (ns.map .int))]), .dat (.int k), .dat (.int x)]) fun d _ => Pot 0 d := by
    intro x h0 h1
    decreasing_trivial
    refine n_pow (b := 18) 4 (by decide) (by decide) (by decide) (by decide) fun _ => ?_
    decreasing_trivial
    have up : (10 : Int) ^ 600 < 2 ^ 2000 := by decide +kernel
    have lo := two_pos 2000
    have out : ∀ y : Int, (y = 0 ∨ y = 1) → Gd (gMul (.int x) (.int y)) fun d => ∃ z : Int, d = .int z ∧ 0 ≤ z ∧ z < 10 ^ 600 := fun y hy => by
      refine n_mul 2000 (by omega) (by omega) ?_ ?_ (by decide) (by decide) ?_
      · rcases hy with rfl | rfl <;> omega
      · have : (1 : Int) < 2 ^ 2000 := by decide +kernel
        rcases hy with rfl | rfl <;> omega
      · rcases hy with rfl | rfl
        · exact ⟨0, by rw [Int.mul_zero], by decide, by decide +kernel⟩
        · exact ⟨x, by rw [Int.mul_one], h0, h1⟩
    refine gd (a := .int (if decide ((10 : Int) ^ 18 ≤ x) = true then 1 else 0)) rfl ?_
    refine gd_mono (out _ (by split <;> simp)) fun d hd => ?_
    obtain ⟨z, rfl, z0, z1⟩ := hd
    decreasing_trivial
    refine n_mod (by decide) fun l1 l2 => ?_
    decreasing_trivial
    refine n_mul 40 (by decide) (by decide) (by omega) (by omega) (by decide) (by decide) ?_
    decreasing_trivial
    refine n_pow (b := 5) 40 (by omega) (by omega) (by decide) (by decide) fun _ => ?_
    decreasing_trivial
    refine n_mod (by decide) fun l3 l4 => ?_
    decreasing_trivial
    exact ⟨by show 3 ≤ _; decide, z, _, 0, rfl, z0, z1, l3, by omega, by decide, by decide⟩
  decreasing_trivial
  refine gd (a := .int ((ns.map PyData.int).length : Nat)) rfl ?_
  decreasing_trivial
  by_cases c : k < ns.length
  · refine .inl ⟨decide_eq_true (by rw [List.length_map]; omega), ?_⟩
    decreasing_trivial
    refine gd (atI_map c) ?_
    decreasing_trivial
    refine gd (a := .int (if ns[k] < 0 then -ns[k] else ns[k])) rfl ?_
    decreasing_trivial
    refine n_pow (b := 60) 4 (by decide) (by decide) (by decide) (by decide) fun _ => ?_
    decreasing_trivial
    refine n_pow (b := 10) 200 (by decide +kernel) (by decide +kernel) (by decide) (by decide) fun _ => ?_
    have e : ((10 : Int) ^ 60) ^ 10 = 10 ^ 600 := by decide +kernel
    rw [e]
    refine n_mod (by decide +kernel) fun l1 l2 => ?_
    repeat (first | exact fin _ l1 l2 | decreasing_trivial_pre_omega)
  · refine .inr ⟨decide_eq_false (by rw [List.length_map]; omega), ?_⟩
    repeat (first | exact fin 0 (by decide) (by decide +kernel) | decreasing_trivial_pre_omega)

theorem at_ok (ds : List PyData) {r : Int} (h0 : 0 ≤ r) (h : r < ds.length) : ∃ d, atI ds r = some d ∧ d ∈ ds := by
  unfold atI ixN
  rw [if_pos h0, if_pos h, Option.bind_some]
  have l : r.toNat < ds.length := by omega
  exact ⟨ds[r.toNat], by rw [List.getElem?_eq_getElem l], List.getElem_mem l⟩
theorem ix_list (ds : List PyData) {r : Int} {D : PyData → Prop} (h0 : 0 ≤ r) (h : r < ds.length) (k : ∀ d ∈ ds, D d) : Gd (gIx (.list ds) (.int r)) D := by
  obtain ⟨d, e, m⟩ := at_ok ds h0 h
  exact gd (show atI ds r = some d from e) (k d m)
theorem cat_list {x y : List PyData} {D : PyData → Prop} (few : x.length + y.length ≤ 1000) (k : D (.list (x ++ y))) : Gd (gAdd (.list x) (.list y)) D :=
  gd (show (if x.length + y.length ≤ sizeLine then _ else _) = _ from if_pos (Nat.le_trans few (by decide))) k
/-- what the pot stands at -/
theorem pot_at {n : Nat} {pd : List PyData} (h : Pot n pd) {m : Int} (hn : n < 1000000) (hm : 1 ≤ m) (hM : m ≤ 2 ^ 60) {D : PyData × List PyData → Prop} (k : ∀ (r : Int) (p : List PyData), 0 ≤ r → r < m → Pot (n + 1) p → D (.int r, p)) : Gd (m__law_take pd [.int m]) D :=
  gd_mono (take_ok h hn hm hM) fun q hq => by
    obtain ⟨d, p⟩ := q
    obtain ⟨r, e, h0, h1, hp⟩ := hq
    have e' : d = .int r := e
    subst e'
    exact k r p h0 h1 hp
end K62

namespace K62
open PySem PySem.Spec PyProof.Rows L2 Dl
local macro_rules | `(tactic| decreasing_trivial_pre_omega) => `(tactic| (first | with_reducible refine s_seq ?_ | with_reducible refine s_if ?_ | with_reducible refine s_set ?_ | with_reducible refine s_setIx ?_ | with_reducible refine s_ret ?_ | with_reducible refine s_nil ?_ | with_reducible refine s_own ?_ | with_reducible refine s_par ?_ | with_reducible refine t_tst ?_ | with_reducible refine t_and ?_ | with_reducible refine t_or ?_ | with_reducible refine t_not ?_ | with_reducible refine t_yes ?_ | with_reducible refine e_op ?_ | with_reducible refine e_un ?_ | with_reducible refine e_chain ?_ | with_reducible refine e_b ?_ | with_reducible refine e_c ?_ | with_reducible refine e_l ?_ | with_reducible refine e_tup ?_ | with_reducible refine e_call ?_ | with_reducible refine e_and ?_ | with_reducible refine e_or ?_ | with_reducible refine e_not ?_ | with_reducible refine e_if ?_ | with_reducible refine e_sl ?_ | with_reducible refine o_n ?_ | with_reducible refine o_s ?_ | with_reducible refine a_nil ?_ | with_reducible refine a_cons ?_ | with_reducible refine f_lst ?_ | with_reducible refine f_call ?_ | with_reducible refine f_itA ?_ | with_reducible refine f_r1 ?_ | with_reducible refine r_seq ?_ | with_reducible refine n_add ?_ | with_reducible refine n_sub ?_ | with_reducible refine n_gt ?_ | with_reducible refine n_ge ?_ | with_reducible refine n_lt ?_ | with_reducible refine n_le ?_ | with_reducible refine e_var (by with_unfolding_all rfl) ?_ | with_reducible refine e_ixc (by with_unfolding_all rfl) ?_ | with_reducible refine e_callM (by with_unfolding_all rfl) ?_ | with_reducible refine s_frz (by with_unfolding_all rfl) ?_ | with_reducible refine s_app (by with_unfolding_all rfl) ?_ | with_reducible refine few_and (by first | decide | (simp only [List.length_cons, List.length_nil, Nat.reduceAdd, Nat.reduceLeDiff])) ?_ | refine Or.inl ⟨by first | with_reducible rfl | with_reducible exact Bool.not_false, ?_⟩ | refine Or.inr ⟨by first | with_reducible rfl | with_reducible exact Bool.not_true, ?_⟩ | refine Exists.intro _ (Exists.intro _ ⟨rfl, rfl, gd rfl ?_⟩) | refine Exists.intro _ ⟨rfl, ?_⟩))
local macro_rules | `(tactic| decreasing_trivial) => `(tactic| repeat decreasing_trivial_pre_omega)
/-! ### fractions -/
/-- what both are divided by -/
def G (p q : Int) : Int := if 0 < q then ((Nat.gcd p.natAbs q.natAbs : Nat) : Int) else -((Nat.gcd p.natAbs q.natAbs : Nat) : Int)
def F (p q : Int) : PyData := .tuple [.int (p.fdiv (G p q)), .int (q.fdiv (G p q))]
theorem gcd_pos {p q : Int} (h : q ≠ 0) : 0 < Nat.gcd p.natAbs q.natAbs := Nat.gcd_pos_of_pos_right _ (by omega)
theorem gcd_le {p q : Int} (h : q ≠ 0) : Nat.gcd p.natAbs q.natAbs ≤ q.natAbs := Nat.gcd_le_right _ (by omega)
theorem G_ne {p q : Int} (h : q ≠ 0) : G p q ≠ 0 := by
  have := gcd_pos (p := p) h
  unfold G
  split <;> omega
theorem G_abs (p q : Int) : (G p q).natAbs = Nat.gcd p.natAbs q.natAbs := by
  unfold G
  split
  · exact Int.natAbs_natCast _
  · rw [Int.natAbs_neg]; exact Int.natAbs_natCast _
theorem G_dvd_left (p q : Int) : G p q ∣ p := Int.natAbs_dvd_natAbs.mp (by rw [G_abs]; exact Nat.gcd_dvd_left _ _)
theorem G_dvd_right (p q : Int) : G p q ∣ q := Int.natAbs_dvd_natAbs.mp (by rw [G_abs]; exact Nat.gcd_dvd_right _ _)
/-- the parts of a fraction in lowest terms -/
theorem parts {p q : Int} (h : q ≠ 0) : ∃ a b : Int, p = G p q * a ∧ q = G p q * b ∧ 0 < b ∧ Nat.gcd a.natAbs b.natAbs = 1 ∧ F p q = .tuple [.int a, .int b] := by
  obtain ⟨a, ha⟩ := G_dvd_left p q
  obtain ⟨b, hb⟩ := G_dvd_right p q
  have gn := G_ne (p := p) h
  have gp := gcd_pos (p := p) h
  refine ⟨a, b, ha, hb, ?_, ?_, ?_⟩
  · by_cases c : 0 < q
    · have g0 : 0 < G p q := by unfold G; rw [if_pos c]; omega
      refine Int.pos_of_mul_pos_right ?_ g0 |> fun z => z
      rw [← hb]; exact c
    · have g0 : G p q < 0 := by unfold G; rw [if_neg c]; omega
      have q0 : q < 0 := by omega
      rcases Int.lt_trichotomy b 0 with z | z | z
      · exfalso
        have := Int.mul_pos_of_neg_of_neg g0 z
        omega
      · subst z; rw [Int.mul_zero] at hb; omega
      · exact z
  · have e1 : p.natAbs = (G p q).natAbs * a.natAbs := by rw [← Int.natAbs_mul, ← ha]
    have e2 : q.natAbs = (G p q).natAbs * b.natAbs := by rw [← Int.natAbs_mul, ← hb]
    have e3 : Nat.gcd p.natAbs q.natAbs = (G p q).natAbs * Nat.gcd a.natAbs b.natAbs := by
      conv => lhs; rw [e1, e2]
      exact Nat.gcd_mul_left _ _ _
    rw [G_abs] at e3
    exact Nat.eq_of_mul_eq_mul_left gp (by rw [Nat.mul_one]; exact e3.symm)
  · unfold F
    have f1 : p.fdiv (G p q) = a := by
      conv => lhs; arg 1; rw [ha]
      exact Int.mul_fdiv_cancel_left a gn
    have f2 : q.fdiv (G p q) = b := by
      conv => lhs; arg 1; rw [hb]
      exact Int.mul_fdiv_cancel_left b gn
    rw [f1, f2]
/-- both times the same -/
theorem F_times {p q n : Int} (h : q ≠ 0) (hn : 0 < n) : F (p * n) (q * n) = F p q := by
  have e : G (p * n) (q * n) = G p q * n := by
    unfold G
    have e1 : Nat.gcd (p * n).natAbs (q * n).natAbs = Nat.gcd p.natAbs q.natAbs * n.natAbs := by
      rw [Int.natAbs_mul, Int.natAbs_mul]
      exact Nat.gcd_mul_right _ _ _
    have e2 : ((n.natAbs : Nat) : Int) = n := Int.natAbs_of_nonneg (Int.le_of_lt hn)
    rw [e1, Int.natCast_mul, e2]
    by_cases c : 0 < q
    · rw [if_pos c, if_pos (Int.mul_pos c hn)]
    · have c2 : ¬ 0 < q * n := fun z => by
        have : q < 0 := by omega
        have := Int.mul_neg_of_neg_of_pos this hn
        omega
      rw [if_neg c, if_neg c2, Int.neg_mul]
  obtain ⟨a, b, ha, hb, _, _, f⟩ := parts (p := p) h
  have gn : G p q * n ≠ 0 := Int.mul_ne_zero (G_ne h) (by omega)
  rw [f]
  unfold F
  rw [e]
  have f1 : (p * n).fdiv (G p q * n) = a := by
    have : p * n = (G p q * n) * a := by
      conv => lhs; rw [ha]
      rw [Int.mul_assoc, Int.mul_assoc, Int.mul_comm a n]
    rw [this]
    exact Int.mul_fdiv_cancel_left a gn
  have f2 : (q * n).fdiv (G p q * n) = b := by
    have : q * n = (G p q * n) * b := by
      conv => lhs; rw [hb]
      rw [Int.mul_assoc, Int.mul_assoc, Int.mul_comm b n]
    rw [this]
    exact Int.mul_fdiv_cancel_left b gn
  rw [f1, f2]
/-- in lowest terms is what isn't changed -/
theorem F_same {p q : Int} (h : 0 < q) : PyData.eqv (F p q) (.tuple [.int p, .int q]) = decide (Nat.gcd p.natAbs q.natAbs = 1) := by
  obtain ⟨a, b, ha, hb, b0, _, f⟩ := parts (p := p) (q := q) (by omega)
  have g1 : G p q = ((Nat.gcd p.natAbs q.natAbs : Nat) : Int) := by unfold G; rw [if_pos h]
  rw [f]
  have e : PyData.eqv (.tuple [.int a, .int b]) (.tuple [.int p, .int q]) = (decide (a = p) && decide (b = q)) := by
    rw [PyData.eqv, PyData.eqvAll, PyData.eqvAll, PyData.eqvAll, PyData.eqv, PyData.eqv, Bool.and_true]
    rfl
  rw [e]
  by_cases c : Nat.gcd p.natAbs q.natAbs = 1
  · have g2 : G p q = 1 := by rw [g1, c]; rfl
    rw [g2, Int.one_mul] at ha hb
    rw [decide_eq_true c, decide_eq_true ha.symm, decide_eq_true hb.symm]
    rfl
  · have nb : b ≠ q := fun z => by
      rw [z] at hb
      have : G p q * q = 1 * q := by rw [Int.one_mul]; exact hb.symm
      have g2 := Int.eq_of_mul_eq_mul_right (show q ≠ 0 by omega) this
      rw [g1] at g2
      omega
    simp [c, nb]
theorem quot_le {g a x : Int} (e : x = g * a) (hg : g ≠ 0) : a.natAbs ≤ x.natAbs := by
  rw [e, Int.natAbs_mul]
  exact Nat.le_mul_of_pos_left _ (by omega)

theorem few_abs {n : Nat} {k : Nat} (h : n < 2 ^ 200) : n < 2 ^ 200 := h
theorem fraction_ok {p q : Int} (h : q ≠ 0) (hq : q.natAbs < 2 ^ 200) : Gd (m_fraction [.int p, .int q]) fun r => r = F p q := by
  have gb := gcd_le (p := p) h
  have gn := G_ne (p := p) h
  have ga := G_abs p q
  unfold m_fraction
  refine m_fnP rfl ?_
  unfold b_fraction
  have fin : ∀ x : Int, x = G p q → Gs (sRet (dTup (aCons (dOp gDivA (dVar 0) (dVar 2)) (aCons (dOp gDivA (dVar 1) (dVar 2)) aNil))) [.dat (.int p), .dat (.int q), .dat (.int x)]) (fun _ => PyData.none = F p q) (fun d _ => d = F p q) := by
    intro x hx
    subst hx
    decreasing_trivial
    refine n_divN gn (by omega) ?_
    decreasing_trivial
    refine n_divN gn (by omega) ?_
    decreasing_trivial
    rfl
  decreasing_trivial
  by_cases c : 0 < q
  · refine .inl ⟨decide_eq_true c, ?_⟩
    decreasing_trivial
    refine gd (a := .int ((Nat.gcd p.natAbs q.natAbs : Nat) : Int)) rfl ?_
    repeat (first | exact fin _ (by unfold G; rw [if_pos c]) | decreasing_trivial_pre_omega)
  · refine .inr ⟨decide_eq_false c, ?_⟩
    decreasing_trivial
    refine gd (a := .int ((Nat.gcd p.natAbs q.natAbs : Nat) : Int)) rfl ?_
    decreasing_trivial
    refine gd (a := .int (-((Nat.gcd p.natAbs q.natAbs : Nat) : Int))) rfl ?_
    repeat (first | exact fin _ (by unfold G; rw [if_neg c]) | decreasing_trivial_pre_omega)
theorem law_fraction_ok {p q : Int} (h : q ≠ 0) (hq : q.natAbs < 2 ^ 200) : Gd (m__law_fraction [.int p, .int q]) fun r => r = F p q := by
  have gb := gcd_le (p := p) h
  have gn := G_ne (p := p) h
  have gp := gcd_pos (p := p) h
  have ga := G_abs p q
  unfold m__law_fraction
  refine m_fnP rfl ?_
  unfold b__law_fraction
  have fin : ∀ x : Int, x = G p q → ∀ v : SV, Gs (sRet (dTup (aCons (dOp gDivA (dVar 0) (dVar 2)) (aCons (dOp gDivA (dVar 1) (dVar 2)) aNil))) [.dat (.int p), .dat (.int q), .dat (.int x), v]) (fun _ => PyData.none = F p q) (fun d _ => d = F p q) := by
    intro x hx v
    subst hx
    decreasing_trivial
    refine n_divN gn (by omega) ?_
    decreasing_trivial
    refine n_divN gn (by omega) ?_
    decreasing_trivial
    rfl
  decreasing_trivial
  refine gd (a := .int ((p.natAbs : Nat) : Int)) (by show some (PyData.int (if p < 0 then -p else p)) = _; split <;> (congr 2; omega)) ?_
  decreasing_trivial
  refine gd (a := .int ((q.natAbs : Nat) : Int)) (by show some (PyData.int (if q < 0 then -q else q)) = _; split <;> (congr 2; omega)) ?_
  decreasing_trivial
  refine s_while (I := fun m s => ∃ x y : Nat, y = m ∧ Nat.gcd x y = Nat.gcd p.natAbs q.natAbs ∧ s = [.dat (.int p), .dat (.int q), .dat (.int (x : Int)), .dat (.int (y : Int))]) ⟨q.natAbs, Nat.lt_of_lt_of_le hq (by unfold bigF; exact Nat.pow_le_pow_right (by decide) (by decide)), p.natAbs, q.natAbs, rfl, rfl, rfl⟩ (fun m s hI => ?_)
  obtain ⟨x, y, rfl, hg, rfl⟩ := hI
  decreasing_trivial
  by_cases c : (0 : Int) < (y : Int)
  · refine .inl ⟨decide_eq_true c, ?_⟩
    decreasing_trivial
    refine n_mod c fun l1 l2 => ?_
    decreasing_trivial
    have yp : 0 < y := by omega
    refine ⟨x % y, Nat.mod_lt _ yp, y, x % y, rfl, ?_, by rw [Int.natCast_emod]; rfl⟩
    rw [← hg, Nat.gcd_comm x y]
    exact (Nat.gcd_comm _ _).trans (Nat.gcd_rec y x).symm
  · refine .inr ⟨decide_eq_false c, ?_⟩
    have y0 : y = 0 := by omega
    subst y0
    rw [Nat.gcd_zero_right] at hg
    subst hg
    decreasing_trivial
    by_cases c2 : q < 0
    · refine .inl ⟨decide_eq_true c2, ?_⟩
      repeat (first | exact fin _ (by unfold G; rw [if_neg (by omega)]; omega) _ | decreasing_trivial_pre_omega)
    · refine .inr ⟨decide_eq_false c2, ?_⟩
      repeat (first | exact fin _ (by unfold G; rw [if_pos (by omega)]) _ | decreasing_trivial_pre_omega)

/-! ### what is a fraction -/
def wholeD : PyData → Bool
  | .int _ => true
  | _ => false
theorem whole_ok {d : PyData} (h : (tyD d).isSome = true) : Gd (m_is_whole [d]) fun r => r = .bool (wholeD d) := by
  obtain ⟨a, ha⟩ := Option.isSome_iff_exists.mp h
  unfold m_is_whole
  refine m_fnP rfl ?_
  unfold b_is_whole
  decreasing_trivial
  cases d with
  | int i =>
    refine gd (a := .bool true) rfl ?_
    decreasing_trivial
    refine gd (a := .bool false) rfl ?_
    decreasing_trivial
    rfl
  | bool b =>
    refine gd (a := .bool true) rfl ?_
    decreasing_trivial
    refine gd (a := .bool true) rfl ?_
    decreasing_trivial
    rfl
  | dict kvs =>
    have e : gIsi "int" (.dict kvs) = some (.bool false) := by
      unfold gIsi
      rw [ha]
      unfold tyD at ha
      simp only at ha
      split at ha
      · cases ha; rfl
      · cases ha
    refine gd e ?_
    decreasing_trivial
    rfl
  | _ =>
    refine gd (a := .bool false) rfl ?_
    decreasing_trivial
    rfl
def fracB : PyData → Bool
  | .tuple [.int p, .int q] => decide (0 < q) && decide (Nat.gcd p.natAbs q.natAbs = 1)
  | _ => false
/-- what the law hands in -/
def Th : PyData → Prop
  | .tuple [a, b] => (tyD a).isSome = true ∧ (tyD b).isSome = true ∧ ∀ i, b = .int i → i.natAbs < 2 ^ 200
  | .tuple _ => True
  | d => (tyD d).isSome = true
theorem not_tuple {d : PyData} (h : ∀ ds, d ≠ .tuple ds) (t : Th d) : gIsi "tuple" d = some (.bool false) ∧ fracB d = false := by
  have g : (tyD d).isSome = true := by
    cases d with
    | tuple ds => exact absurd rfl (h ds)
    | _ => exact t
  obtain ⟨a, ha⟩ := Option.isSome_iff_exists.mp g
  cases d with
  | tuple ds => exact absurd rfl (h ds)
  | dict kvs =>
    refine ⟨?_, rfl⟩
    unfold gIsi
    rw [ha]
    unfold tyD at ha
    simp only at ha
    split at ha
    · cases ha; rfl
    · cases ha
  | _ => exact ⟨rfl, rfl⟩
theorem ne_two (n : Nat) : gNe (.int (n : Int)) (.int 2) = some (.bool (!decide (n = 2))) := by
  have e : PyData.eqv (.int (n : Int)) (.int 2) = decide (n = 2) := by
    rw [PyData.eqv]
    by_cases c : n = 2
    · subst c; rfl
    · have : (n : Int) ≠ 2 := by omega
      simp [c, this]
  rw [← e]
  rfl
theorem two_parts {ds : List PyData} (h : ds.length = 2) : ∃ a b, ds = [a, b] := by
  match ds, h with
  | [a, b], _ => exact ⟨a, b, rfl⟩
theorem frac_not {ds : List PyData} (h : ds.length ≠ 2) : fracB (.tuple ds) = false := by
  match ds, h with
  | [], _ => rfl
  | [_], _ => simp [fracB]
  | [_, _], h => exact absurd rfl h
  | _ :: _ :: _ :: _, _ => simp [fracB]
theorem eq_one (n : Nat) : gEq (.int (n : Int)) (.int 1) = some (.bool (decide (n = 1))) := by
  have e : PyData.eqv (.int (n : Int)) (.int 1) = decide (n = 1) := by
    rw [PyData.eqv]
    by_cases c : n = 1
    · subst c; rfl
    · have : (n : Int) ≠ 1 := by omega
      simp [c, this]
  rw [← e]
  rfl
theorem is_fraction_ok {d : PyData} (t : Th d) : Gd (m_is_fraction [d]) fun r => r = .bool (fracB d) := by
  unfold m_is_fraction
  refine m_fnP rfl ?_
  unfold b_is_fraction
  decreasing_trivial
  by_cases c : ∃ ds, d = .tuple ds
  · obtain ⟨ds, rfl⟩ := c
    refine gd (a := .bool true) rfl ?_
    decreasing_trivial
    refine gd (a := .int (ds.length : Nat)) rfl ?_
    decreasing_trivial
    refine gd (ne_two _) ?_
    by_cases l : ds.length = 2
    · rw [decide_eq_true l]
      obtain ⟨a, b, rfl⟩ := two_parts l
      obtain ⟨ta, tb, few⟩ := t
      decreasing_trivial
      refine s_asg ?_
      decreasing_trivial
      refine gd rfl ?_
      decreasing_trivial
      refine gd_mono (whole_ok ta) fun r hr => ?_
      subst hr
      decreasing_trivial
      cases a with
      | int p =>
        refine .inl ⟨rfl, ?_⟩
        decreasing_trivial
        refine gd_mono (whole_ok tb) fun r hr => ?_
        subst hr
        decreasing_trivial
        cases b with
        | int q =>
          refine .inl ⟨rfl, ?_⟩
          decreasing_trivial
          by_cases c : 0 < q
          · refine .inl ⟨decide_eq_true (by omega), ?_⟩
            decreasing_trivial
            refine gd (a := .int ((Nat.gcd p.natAbs q.natAbs : Nat) : Int)) rfl ?_
            decreasing_trivial
            refine gd (eq_one _) ?_
            show _ = PyData.bool (decide (0 < q) && _)
            rw [decide_eq_true c]
            rfl
          · refine .inr ⟨decide_eq_false (by omega), ?_⟩
            show _ = PyData.bool (decide (0 < q) && _)
            rw [decide_eq_false c]
            rfl
        | _ => exact .inr ⟨rfl, rfl⟩
      | _ => exact .inr ⟨rfl, rfl⟩
    · rw [decide_eq_false l, frac_not l]
      decreasing_trivial
      rfl
  · obtain ⟨e1, e2⟩ := not_tuple (fun ds z => c ⟨ds, z⟩) t
    rw [e2]
    refine gd e1 ?_
    decreasing_trivial
    rfl
end K62

/-! fractions as pairs, rows, tables; what is drawn -/
namespace K62
open PySem PySem.Spec PyProof.Rows L2 Dl
abbrev Qt := Int × Int
def qD (f : Qt) : PyData := .tuple [.int f.1, .int f.2]
def rowD (r : List Qt) : PyData := .tuple (r.map qD)
structure Tb where
  cells : List (List Qt)
  rows : List Qt
  cols : List Qt
  whole : Qt
def tabD (t : Tb) : PyData := .tuple [.tuple (t.cells.map rowD), rowD t.rows, rowD t.cols, qD t.whole]
/-- in lowest terms, of a size -/
def OkQ (f : Qt) : Prop := 0 < f.2 ∧ Nat.gcd f.1.natAbs f.2.natAbs = 1 ∧ f.1.natAbs ≤ 10 ^ 20 ∧ f.2 ≤ 10 ^ 10
structure OkT (R C : Nat) (t : Tb) : Prop where
  few : (1 ≤ R ∧ R ≤ 8) ∧ 1 ≤ C ∧ C ≤ 8
  len : t.cells.length = R
  wid : ∀ r ∈ t.cells, r.length = C
  lr : t.rows.length = R
  lc : t.cols.length = C
  cells : ∀ r ∈ t.cells, ∀ f ∈ r, OkQ f
  rows : ∀ f ∈ t.rows, OkQ f
  cols : ∀ f ∈ t.cols, OkQ f
  whole : OkQ t.whole
def frac (p q : Int) : Qt := (p.fdiv (G p q), q.fdiv (G p q))
theorem F_frac (p q : Int) : F p q = qD (frac p q) := rfl
theorem frac_ok {p q : Int} (h : q ≠ 0) (hp : p.natAbs ≤ 10 ^ 20) (hq : q.natAbs ≤ 10 ^ 10) : OkQ (frac p q) := by
  obtain ⟨a, b, ha, hb, b0, ab, f⟩ := parts (p := p) h
  have la := quot_le ha (G_ne h)
  have lb := quot_le hb (G_ne h)
  rw [F_frac] at f
  have e : frac p q = (a, b) := by
    unfold qD at f
    injection f with f
    injection f with f1 f2
    injection f2 with f2 _
    injection f1 with f1
    injection f2 with f2
    exact Prod.ext f1 f2
  rw [e]
  exact ⟨b0, ab, by show a.natAbs ≤ _; omega, by show b ≤ _; omega⟩
/-! #### a row drawn -/
theorem m_fnN {N : List Str} {n : Nat} {b : DS} {pd ds : List PyData} {q : PyData × List PyData → Prop} (l : ds.length = n)
    (h : Gs (b (startN N pd ds)) (fun s => ∃ pd', potOf s[n]? = some pd' ∧ q (.none, pd')) fun d s => ∃ pd', potOf s[n]? = some pd' ∧ q (d, pd')) : Gd (fnN N n b pd ds) q := by
  obtain ⟨⟨s1, e, pd', e2, k⟩ | ⟨d, s1, e, pd', e2, k⟩⟩ := h
  · exact ⟨_, by unfold fnN; rw [if_pos l, e]; simp only [outN, e2, Option.map_some], k⟩
  · exact ⟨_, by unfold fnN; rw [if_pos l, e]; simp only [outN, e2, Option.map_some], k⟩
theorem mem3 {p : PyData → Prop} {a b c : PyData} (ha : p a) (hb : p b) (hc : p c) : ∀ d ∈ [a, b, c], p d := fun d hd => by
  simp only [List.mem_cons, List.not_mem_nil, or_false] at hd
  rcases hd with rfl | rfl | rfl <;> assumption
theorem ten12 : (10 : Int) ^ 12 = 1000000000000 := by decide +kernel
theorem ten11 : (10 : Int) ^ 11 = 100000000000 := by decide +kernel
theorem ten6 : (10 : Int) ^ 6 = 1000000 := by decide +kernel
theorem part_ok {n k : Nat} {p : List PyData} {r : List Qt} {d : PyData} {x y : SV} (hp : Pot n p) (hn : n < 200000) (few : r.length ≤ 8) (hv : (x = .no ∧ y = .no) ∨ ∃ a b, x = .dat a ∧ y = .dat b) :
    Gs ((sSeq (sSet 4 (dOp gIx (dL (fLst (aCons (dC (.int 0)) (aCons (dOp gSub (dCallM m__law_take 1 (aCons (dC (.int 41)) aNil)) (dC (.int 20))) (aCons (dOp gSub (dCallM m__law_take 1 (aCons (dOp gPow (dC (.int 10)) (dC (.int 12))) aNil)) (dOp gPow (dC (.int 10)) (dC (.int 11)))) aNil))))) (dCallM m__law_take 1 (aCons (dC (.int 3)) aNil))))
  (sSeq (sSet 5 (dOp gAdd (dC (.int 1)) (dOp gIx (dL (fLst (aCons (dC (.int 0)) (aCons (dCallM m__law_take 1 (aCons (dC (.int 12)) aNil)) (aCons (dCallM m__law_take 1 (aCons (dOp gPow (dC (.int 10)) (dC (.int 6))) aNil)) aNil))))) (dCallM m__law_take 1 (aCons (dC (.int 3)) aNil)))))
  (sApp 2 (dCall m__law_fraction (aCons (dVar 4) (aCons (dVar 5) aNil)))))) [.dat (.int k), .pot 0 p, .own (r.map qD), .dat d, x, y]) (fun s => ∃ (f : Qt) (p' : List PyData) (a b : PyData), OkQ f ∧ Pot (n + 6) p' ∧ s = [.dat (.int k), .pot 0 p', .own ((r ++ [f]).map qD), .dat d, .dat a, .dat b]) (fun _ _ => False) := by
  have fin : ∀ (t u : Int) (p' : List PyData) (x y : SV), t.natAbs ≤ 10 ^ 20 → 1 ≤ u → u ≤ 10 ^ 10 → Pot (n + 6) p' → Gs (sApp 2 (dCall m__law_fraction (aCons (dVar 4) (aCons (dVar 5) aNil))) [.dat (.int k), .pot 0 p', .own (r.map qD), .dat d, .dat (.int t), .dat (.int u)]) (fun s => ∃ (f : Qt) (p' : List PyData) (a b : PyData), OkQ f ∧ Pot (n + 6) p' ∧ s = [.dat (.int k), .pot 0 p', .own ((r ++ [f]).map qD), .dat d, .dat a, .dat b]) (fun _ _ => False) := fun t u p' x y ht u1 u2 hp' => by
    refine s_app (p0 := r.map qD) rfl ?_
    refine e_call ?_
    refine a_cons ?_
    refine e_var rfl ?_
    refine a_cons ?_
    refine e_var rfl ?_
    refine a_nil ?_
    refine gd_mono (law_fraction_ok (p := t) (q := u) (by omega) (by omega)) fun q hq => ?_
    subst hq
    refine ⟨r.map qD, rfl, ?_, frac t u, p', .int t, .int u, frac_ok (by omega) ht (by omega), hp', ?_⟩
    · rw [List.length_map]
      exact Nat.lt_of_le_of_lt few (by decide)
    · rw [List.map_append]
      rfl
  rcases hv with ⟨rfl, rfl⟩ | ⟨a, b, rfl, rfl⟩
  all_goals
    refine s_seq ?_
    refine s_set ?_
    refine e_op ?_
    refine e_l ?_
    refine f_lst ?_
    refine a_cons ?_
    refine e_c ?_
    refine a_cons ?_
    refine e_op ?_
    refine e_callM (p0 := p) rfl ?_
    refine a_cons ?_
    refine e_c ?_
    refine a_nil ?_
    refine ⟨p, rfl, ?_⟩
    refine pot_at hp (by omega) (by decide) (by decide) fun r1 p1 a1 b1 hp1 => ?_
    refine e_c ?_
    refine n_sub ?_
    refine a_cons ?_
    refine e_op ?_
    refine e_callM (p0 := p1) rfl ?_
    refine a_cons ?_
    refine e_op ?_
    refine e_c ?_
    refine e_c ?_
    refine n_pow (b := 12) 4 (by decide) (by decide) (by decide) (by decide) fun _ => ?_
    rw [ten12]
    refine a_nil ?_
    refine ⟨p1, rfl, ?_⟩
    refine pot_at hp1 (by omega) (by decide) (by decide) fun r2 p2 a2 b2 hp2 => ?_
    refine e_op ?_
    refine e_c ?_
    refine e_c ?_
    refine n_pow (b := 11) 4 (by decide) (by decide) (by decide) (by decide) fun _ => ?_
    rw [ten11]
    refine n_sub ?_
    refine a_nil ?_
    refine ⟨by show 3 ≤ _; decide, ?_⟩
    refine e_callM (p0 := p2) rfl ?_
    refine a_cons ?_
    refine e_c ?_
    refine a_nil ?_
    refine ⟨p2, rfl, ?_⟩
    refine pot_at hp2 (by omega) (by decide) (by decide) fun r3 p3 a3 b3 hp3 => ?_
    refine ix_list _ a3 (by exact b3) fun d1 hd1 => ?_
    obtain ⟨t, rfl, ht⟩ := mem3 (p := fun d => ∃ t : Int, d = .int t ∧ t.natAbs ≤ 10 ^ 20) ⟨_, rfl, by decide⟩ ⟨_, rfl, by omega⟩ ⟨_, rfl, by omega⟩ d1 hd1
    refine s_seq ?_
    refine s_set ?_
    refine e_op ?_
    refine e_c ?_
    refine e_op ?_
    refine e_l ?_
    refine f_lst ?_
    refine a_cons ?_
    refine e_c ?_
    refine a_cons ?_
    refine e_callM (p0 := p3) rfl ?_
    refine a_cons ?_
    refine e_c ?_
    refine a_nil ?_
    refine ⟨p3, rfl, ?_⟩
    refine pot_at hp3 (by omega) (by decide) (by decide) fun r4 p4 a4 b4 hp4 => ?_
    refine a_cons ?_
    refine e_callM (p0 := p4) rfl ?_
    refine a_cons ?_
    refine e_op ?_
    refine e_c ?_
    refine e_c ?_
    refine n_pow (b := 6) 4 (by decide) (by decide) (by decide) (by decide) fun _ => ?_
    rw [ten6]
    refine a_nil ?_
    refine ⟨p4, rfl, ?_⟩
    refine pot_at hp4 (by omega) (by decide) (by decide) fun r5 p5 a5 b5 hp5 => ?_
    refine a_nil ?_
    refine ⟨by show 3 ≤ _; decide, ?_⟩
    refine e_callM (p0 := p5) rfl ?_
    refine a_cons ?_
    refine e_c ?_
    refine a_nil ?_
    refine ⟨p5, rfl, ?_⟩
    refine pot_at hp5 (by omega) (by decide) (by decide) fun r6 p6 a6 b6 hp6 => ?_
    refine ix_list _ a6 (by exact b6) fun d2 hd2 => ?_
    obtain ⟨u, rfl, hu⟩ := mem3 (p := fun d => ∃ t : Int, d = .int t ∧ 0 ≤ t ∧ t < 10 ^ 9) ⟨_, rfl, by decide, by decide⟩ ⟨_, rfl, by omega, by omega⟩ ⟨_, rfl, by omega, by omega⟩ d2 hd2
    refine n_add ?_
    exact fin t (1 + u) p6 .no .no ht (by omega) (by omega) hp6
theorem row_ok {n : Nat} {pd : List PyData} (h : Pot n pd) (hn : n < 100000) {k : Nat} (hk : k ≤ 8) : Gd (m__law_row_here pd [.int k]) fun q => ∃ r : List Qt, q.1 = rowD r ∧ r.length = k ∧ (∀ f ∈ r, OkQ f) ∧ Pot (n + 50) q.2 := by
  unfold m__law_row_here
  refine m_fnN rfl ?_
  show Gs (b__law_row_here [.dat (.int k), .pot 0 pd, .no, .no, .no, .no]) _ _
  unfold b__law_row_here
  refine s_seq ?_
  refine s_own ?_
  refine f_lst ?_
  refine a_nil ?_
  refine ⟨by decide, by show 2 < 6; decide, ?_⟩
  refine s_seq ?_
  refine s_for (I := fun left s => ∃ (r : List Qt) (p : List PyData) (v3 v4 v5 : SV), s = [.dat (.int k), .pot 0 p, .own (r.map qD), v3, v4, v5] ∧ left.length + r.length = k ∧ (∀ f ∈ r, OkQ f) ∧ Pot (n + 6 * r.length) p ∧ ((v4 = .no ∧ v5 = .no) ∨ ∃ a b, v4 = .dat a ∧ v5 = .dat b)) ?_ (fun d left s hI => ?_) (fun s hI => ?_)
  · refine f_r1 ?_
    refine e_var rfl ?_
    refine ⟨k, rfl, by omega, by omega, [], pd, _, _, _, rfl, ?_, (fun f hf => by cases hf), h, .inl ⟨rfl, rfl⟩⟩
    unfold Dl.rng
    rw [List.length_map, List.length_range]
    simp
  · obtain ⟨r, p, v3, v4, v5, rfl, len, ok, hp, hv⟩ := hI
    rw [List.length_cons] at len
    refine ⟨_, rfl, ?_⟩
    refine gs_mono (part_ok (d := d) hp (by omega) (by omega) hv) (fun s hs => ?_) (fun _ _ z => z.elim)
    obtain ⟨f, p', a, b, of, hp', rfl⟩ := hs
    refine ⟨r ++ [f], p', _, _, _, rfl, by rw [List.length_append, List.length_singleton]; omega, fun g hg => ?_, Pot.mono hp' (by rw [List.length_append, List.length_singleton]; omega), .inr ⟨_, _, rfl, rfl⟩⟩
    rcases List.mem_append.mp hg with z | z
    · exact ok g z
    · rw [List.mem_singleton.mp z]; exact of
  · obtain ⟨r, p, v3, v4, v5, rfl, len, ok, hp, hv⟩ := hI
    rw [List.length_nil] at len
    refine s_seq ?_
    refine s_frz (ds := r.map qD) rfl ?_
    refine s_ret ?_
    refine e_b ?_
    refine a_cons ?_
    refine e_var rfl ?_
    refine a_nil ?_
    refine gd (a := rowD r) rfl ?_
    exact ⟨p, rfl, r, rfl, by omega, ok, hp.mono (by omega)⟩
/-! #### a table drawn -/
theorem rows_ok {m : Nat} (hm : m ≤ 8) : ∀ (k n : Nat) {pd : List PyData}, Pot n pd → n + 50 * k < 90000 → Gd (rows_ (.int m) k pd) fun a => ∃ rs : List (List Qt), a.1 = rs.map rowD ∧ rs.length = k ∧ (∀ r ∈ rs, r.length = m) ∧ (∀ r ∈ rs, ∀ f ∈ r, OkQ f) ∧ Pot (n + 50 * k) a.2
  | 0, n, pd, h, hn => gd (a := ([], pd)) rfl ⟨[], rfl, rfl, (fun r hr => by cases hr), (fun r hr => by cases hr), h⟩
  | k + 1, n, pd, h, hn => by
    obtain ⟨q, e, r, e1, l1, o1, hp⟩ := row_ok (k := m) h (by omega) hm
    obtain ⟨a, e2, rs, e3, l2, w2, o2, hp2⟩ := rows_ok hm k (n + 50) hp (by omega)
    refine gd (a := (q.1 :: a.1, a.2)) ?_ ⟨r :: rs, ?_, by rw [List.length_cons, l2], fun x hx => ?_, fun x hx => ?_, hp2.mono (by omega)⟩
    · unfold rows_
      rw [e, Option.bind_some, e2]
      rfl
    · rw [List.map_cons, ← e1, ← e3]
    · rcases List.mem_cons.mp hx with z | z
      · rw [z]; exact l1
      · exact w2 x z
    · rcases List.mem_cons.mp hx with z | z
      · rw [z]; exact o1
      · exact o2 x z
theorem table_ok {n : Nat} {pd : List PyData} (h : Pot n pd) (hn : n < 80000) {R C : Nat} (few : (1 ≤ R ∧ R ≤ 8) ∧ 1 ≤ C ∧ C ≤ 8) : Gd (m__law_table pd [.int R, .int C]) fun q => ∃ t : Tb, q.1 = tabD t ∧ OkT R C t ∧ Pot (n + 600) q.2 := by
  obtain ⟨a, ea, cs, e1, l1, w1, o1, hp1⟩ := rows_ok (m := C) few.2.2 R n h (by omega)
  obtain ⟨b, eb, rs, e2, l2, o2, hp2⟩ := row_ok (k := R) hp1 (by omega) few.1.2
  obtain ⟨c, ec, ks, e3, l3, o3, hp3⟩ := row_ok (k := C) hp2 (by omega) few.2.2
  obtain ⟨d, ed, ws, e4, l4, o4, hp4⟩ := row_ok (k := 1) hp3 (by omega) (by omega)
  match ws, l4, o4, e4 with
  | [w], _, o4, e4 =>
    refine gd (a := (.tuple [.tuple a.1, b.1, c.1, qD w], d.2)) ?_ ⟨⟨cs, rs, ks, w⟩, ?_, ⟨few, l1, w1, l2, l3, o1, o2, o3, o4 w List.mem_cons_self⟩, hp4.mono (by omega)⟩
    · show (if 0 ≤ (R : Int) ∧ (R : Int) ≤ 100 then _ else none) = _
      rw [if_pos ⟨by omega, by omega⟩]
      have er : ((R : Int)).toNat = R := Int.toNat_natCast R
      rw [er, ea, Option.bind_some, eb, Option.bind_some, ec, Option.bind_some]
      have ed' : m__law_row_here c.2 [.int 1] = some d := ed
      rw [ed', Option.bind_some, e4]
      rfl
    · show PyData.tuple [.tuple a.1, b.1, c.1, qD w] = .tuple [.tuple (cs.map rowD), rowD rs, rowD ks, qD w]
      rw [e1, e2, e3]
end K62

/-! which size a thing has as a table -/
namespace K62
open PySem PySem.Spec PyProof.Rows L2 Dl
theorem all_bool {α : Type} (f : α → Bool) (l : List α) : gAll [.list (l.map fun d => .bool (f d))] = some (.bool (l.all f)) := by
  show (truths _).map _ = _
  have : truths (l.map fun d => PyData.bool (f d)) = some (l.map f) := by
    induction l with
    | nil => rfl
    | cons a r ih => show (truths (r.map fun d => PyData.bool (f d))).map _ = _; rw [ih]; rfl
  rw [this, Option.map_some, List.all_map]
  rfl
def areB : PyData → Bool
  | .tuple ds => (decide (1 ≤ ds.length) && decide (ds.length ≤ 8)) && ds.all fracB
  | _ => false
theorem are_t (ds : List PyData) : areB (.tuple ds) = ((decide (1 ≤ ds.length) && decide (ds.length ≤ 8)) && ds.all fracB) := rfl
/-- no tuple, and known as none -/
def Nt (d : PyData) : Prop := (∀ ds, d ≠ .tuple ds) ∧ gIsi "tuple" d = some (.bool false)
def Ta (d : PyData) : Prop := (∃ ds, d = .tuple ds ∧ ds.length ≤ 100 ∧ ∀ x ∈ ds, Th x) ∨ Nt d
theorem isi_t (ds : List PyData) : gIsi "tuple" (.tuple ds) = some (.bool true) := rfl
theorem are_no {d : PyData} (h : Nt d) : areB d = false := by
  unfold areB
  split
  · rename_i ds; exact absurd rfl (h.1 ds)
  · rfl
theorem are_ok {d : PyData} (h : Ta d) : Gd (m__are_fractions [d]) fun q => q = .bool (areB d) := by
  unfold m__are_fractions
  refine m_fnP rfl ?_
  show Gs (b__are_fractions [.dat d, .no]) _ _
  unfold b__are_fractions
  refine s_ret ?_
  refine e_and ?_
  refine e_un ?_
  refine e_var rfl ?_
  rcases h with ⟨ds, rfl, few, th⟩ | h
  · refine gd (isi_t ds) ⟨_, rfl, .inl ⟨rfl, ?_⟩⟩
    refine e_and ?_
    refine e_chain ?_
    refine e_c ?_
    refine e_b ?_
    refine a_cons ?_
    refine e_var (d := .tuple ds) rfl ?_
    refine a_nil ?_
    refine gd (a := .int (ds.length : Nat)) rfl ?_
    by_cases c1 : 1 ≤ ds.length
    · refine gd (a := .bool true) (by show some (PyData.bool (decide ((1 : Int) ≤ (ds.length : Nat)))) = _; rw [decide_eq_true (by omega)]) (.inl ⟨rfl, ?_⟩)
      refine e_c ?_
      by_cases c2 : ds.length ≤ 8
      · refine gd (a := .bool true) (by show some (PyData.bool (decide ((ds.length : Int) ≤ 8))) = _; rw [decide_eq_true (by omega)]) ⟨_, rfl, .inl ⟨rfl, ?_⟩⟩
        refine e_b ?_
        refine a_cons ?_
        refine e_l ?_
        refine f_lc_pure (fun _ => true) (fun d => .bool (fracB d)) ?_
        refine f_itA ?_
        refine e_var (d := .tuple ds) rfl ?_
        refine .inl ⟨_, .inr rfl, rfl, Nat.lt_of_le_of_lt few (by decide), fun e he => ⟨t_yes ⟨rfl, rfl⟩, fun _ => ?_⟩, ?_⟩
        · refine e_call ?_
          refine a_cons ?_
          refine e_var (d := e) rfl ?_
          refine a_nil ?_
          exact gd_mono (is_fraction_ok (th e he)) fun q hq => ⟨hq, rfl⟩
        · rw [List.filter_eq_self.mpr (fun _ _ => rfl)]
          refine a_nil ?_
          refine gd (all_bool fracB ds) ?_
          rw [are_t, decide_eq_true c1, decide_eq_true c2]
          rfl
      · refine gd (a := .bool false) (by show some (PyData.bool (decide ((ds.length : Int) ≤ 8))) = _; rw [decide_eq_false (by omega)]) ⟨_, rfl, .inr ⟨rfl, ?_⟩⟩
        rw [are_t, decide_eq_false c2, Bool.and_false, Bool.false_and]
    · refine gd (a := .bool false) (by show some (PyData.bool (decide ((1 : Int) ≤ (ds.length : Nat)))) = _; rw [decide_eq_false (by omega)]) (.inr ⟨rfl, ?_⟩)
      refine ⟨_, rfl, .inr ⟨rfl, ?_⟩⟩
      rw [are_t, decide_eq_false c1, Bool.false_and, Bool.false_and]
  · refine gd h.2 ⟨_, rfl, .inr ⟨rfl, ?_⟩⟩
    rw [are_no h]
def lenT : PyData → Nat
  | .tuple ds => ds.length
  | _ => 0
def szC (c r k : PyData) : Option (Nat × Nat) := match c with
  | .tuple cs => if (decide (cs.length = lenT r) && cs.all (fun x => areB x && decide (lenT x = lenT k))) = true then some (lenT r, lenT k) else none
  | _ => none
def sizeB : PyData → Option (Nat × Nat)
  | .tuple [c, r, k, w] => if ((areB r && areB k) && fracB w) = true then szC c r k else none
  | _ => none
theorem size4 (c r k w : PyData) : sizeB (.tuple [c, r, k, w]) = if ((areB r && areB k) && fracB w) = true then szC c r k else none := rfl
def szD : Option (Nat × Nat) → PyData
  | none => .none
  | some (a, b) => .tuple [.int a, .int b]
/-- what the law hands in -/
def Tz (d : PyData) : Prop := Nt d ∨ (∃ ds, d = .tuple ds ∧ ds.length ≠ 4) ∨ ∃ c r k w, d = .tuple [c, r, k, w] ∧ Ta r ∧ Ta k ∧ Th w ∧ (Nt c ∨ ∃ cs, c = .tuple cs ∧ cs.length ≤ 100 ∧ ∀ x ∈ cs, Ta x)
theorem are_tup {d : PyData} (h : areB d = true) : ∃ ds, d = .tuple ds := by
  unfold areB at h
  split at h
  · exact ⟨_, rfl⟩
  · cases h
theorem ne_nat (a b : Nat) : gNe (.int (a : Int)) (.int (b : Int)) = some (.bool (!decide (a = b))) := by
  have e : PyData.eqv (.int (a : Int)) (.int (b : Int)) = decide (a = b) := by
    rw [PyData.eqv]
    by_cases c : a = b
    · subst c; simp
    · have : (a : Int) ≠ b := by omega
      simp [c, this]
  rw [← e]
  rfl
theorem eq_nat (a b : Nat) : gEq (.int (a : Int)) (.int (b : Int)) = some (.bool (decide (a = b))) := by
  have e : PyData.eqv (.int (a : Int)) (.int (b : Int)) = decide (a = b) := by
    rw [PyData.eqv]
    by_cases c : a = b
    · subst c; simp
    · have : (a : Int) ≠ b := by omega
      simp [c, this]
  rw [← e]
  rfl
theorem size_ok {d : PyData} (h : Tz d) : Gd (m__size_of [d]) fun q => q = szD (sizeB d) := by
  unfold m__size_of
  refine m_fnP rfl ?_
  show Gs (b__size_of [.dat d, .no, .no, .no, .no, .no]) _ _
  unfold b__size_of
  refine s_seq ?_
  refine s_if ?_
  refine t_or ?_
  refine t_not ?_
  refine t_tst ?_
  refine e_un ?_
  refine e_var rfl ?_
  rcases h with h | ⟨ds, rfl, n4⟩ | ⟨c, r, k, w, rfl, tr, tk, tw, tc⟩
  · refine gd h.2 ⟨_, rfl, .inl ⟨rfl, .inl ⟨rfl, ?_⟩⟩⟩
    refine s_ret ?_
    refine e_c ?_
    have e : sizeB d = none := by
      unfold sizeB
      split
      · rename_i c r k w; exact absurd rfl (h.1 _)
      · rfl
    rw [e]
    rfl
  · refine gd (isi_t ds) ⟨_, rfl, .inr ⟨rfl, ?_⟩⟩
    refine t_tst ?_
    refine e_op ?_
    refine e_b ?_
    refine a_cons ?_
    refine e_var (d := .tuple ds) rfl ?_
    refine a_nil ?_
    refine gd (a := .int (ds.length : Nat)) rfl ?_
    refine e_c ?_
    refine gd (ne_nat ds.length 4) ⟨_, rfl, .inl ⟨by rw [decide_eq_false n4]; rfl, ?_⟩⟩
    refine s_ret ?_
    refine e_c ?_
    have e : sizeB (.tuple ds) = none := by
      unfold sizeB
      split
      · rename_i c r k w e; cases e; exact absurd rfl n4
      · rfl
    rw [e]
    rfl
  · refine gd (isi_t _) ⟨_, rfl, .inr ⟨rfl, ?_⟩⟩
    refine t_tst ?_
    refine e_op ?_
    refine e_b ?_
    refine a_cons ?_
    refine e_var (d := .tuple [c, r, k, w]) rfl ?_
    refine a_nil ?_
    refine gd (a := .int ((4 : Nat) : Int)) rfl ?_
    refine e_c ?_
    refine gd (ne_nat 4 4) ⟨_, rfl, .inr ⟨rfl, ?_⟩⟩
    refine s_nil ?_
    refine s_seq ?_
    refine s_asg ?_
    refine e_var (d := .tuple [c, r, k, w]) rfl ?_
    refine gd (a := [.dat (.tuple [c, r, k, w]), .dat c, .dat r, .dat k, .dat w, .no]) rfl ?_
    have stop : ∀ {sz : Option (Nat × Nat)} {s : Sl} {N : Sl → Prop}, sz = none → Gs (sRet (dC .none) s) N (fun d _ => d = szD sz) := fun e => by
      refine s_ret ?_
      refine e_c ?_
      rw [e]
      rfl
    refine s_seq ?_
    refine s_if ?_
    refine t_or ?_
    refine t_not ?_
    refine t_tst ?_
    refine e_call ?_
    refine a_cons ?_
    refine e_var (d := r) rfl ?_
    refine a_nil ?_
    refine gd_mono (are_ok tr) fun q hq => ⟨_, hq, ?_⟩
    cases ar : areB r with
    | false => exact .inl ⟨rfl, .inl ⟨rfl, stop (by rw [size4, ar]; rfl)⟩⟩
    | true =>
    refine .inr ⟨rfl, ?_⟩
    refine t_or ?_
    refine t_not ?_
    refine t_tst ?_
    refine e_call ?_
    refine a_cons ?_
    refine e_var (d := k) rfl ?_
    refine a_nil ?_
    refine gd_mono (are_ok tk) fun q hq => ⟨_, hq, ?_⟩
    cases ak : areB k with
    | false => exact .inl ⟨rfl, .inl ⟨rfl, stop (by rw [size4, ar, ak]; rfl)⟩⟩
    | true =>
    refine .inr ⟨rfl, ?_⟩
    refine t_not ?_
    refine t_tst ?_
    refine e_call ?_
    refine a_cons ?_
    refine e_var (d := w) rfl ?_
    refine a_nil ?_
    refine gd_mono (is_fraction_ok tw) fun q hq => ⟨_, hq, ?_⟩
    cases aw : fracB w with
    | false => exact .inl ⟨rfl, stop (by rw [size4, ar, ak, aw]; rfl)⟩
    | true =>
    refine .inr ⟨rfl, ?_⟩
    refine s_nil ?_
    obtain ⟨rs, rfl⟩ := are_tup ar
    obtain ⟨ks, rfl⟩ := are_tup ak
    refine s_seq ?_
    refine s_if ?_
    refine t_or ?_
    refine t_not ?_
    refine t_tst ?_
    refine e_un ?_
    refine e_var (d := c) rfl ?_
    rcases tc with nc | ⟨cs, rfl, fc, tc⟩
    · refine gd nc.2 ⟨_, rfl, .inl ⟨rfl, .inl ⟨rfl, stop ?_⟩⟩⟩
      rw [size4, ar, ak, aw]
      cases c with
      | tuple ds => exact absurd rfl (nc.1 ds)
      | _ => rfl
    · refine gd (isi_t cs) ⟨_, rfl, .inr ⟨rfl, ?_⟩⟩
      refine t_tst ?_
      refine e_op ?_
      refine e_b ?_
      refine a_cons ?_
      refine e_var (d := .tuple cs) rfl ?_
      refine a_nil ?_
      refine gd (a := .int (cs.length : Nat)) rfl ?_
      refine e_b ?_
      refine a_cons ?_
      refine e_var (d := .tuple rs) rfl ?_
      refine a_nil ?_
      refine gd (a := .int (rs.length : Nat)) rfl ?_
      refine gd (ne_nat _ _) ⟨_, rfl, ?_⟩
      by_cases cl : cs.length = rs.length
      · refine .inr ⟨by rw [decide_eq_true cl]; rfl, ?_⟩
        refine s_nil ?_
        refine s_seq ?_
        refine s_if ?_
        refine t_not ?_
        refine t_tst ?_
        refine e_b ?_
        refine a_cons ?_
        refine e_l ?_
        refine f_lc_pure (fun _ => true) (fun x => .bool (areB x && decide (lenT x = ks.length))) ?_
        refine f_itA ?_
        refine e_var (d := .tuple cs) rfl ?_
        refine .inl ⟨_, .inr rfl, rfl, Nat.lt_of_le_of_lt fc (by decide), fun e he => ⟨t_yes ⟨rfl, rfl⟩, fun _ => ?_⟩, ?_⟩
        · refine e_and ?_
          refine e_call ?_
          refine a_cons ?_
          refine e_var (d := e) rfl ?_
          refine a_nil ?_
          refine gd_mono (are_ok (tc e he)) fun q hq => ⟨_, hq, ?_⟩
          cases ae : areB e with
          | false => exact .inr ⟨rfl, rfl, rfl⟩
          | true =>
            obtain ⟨es, rfl⟩ := are_tup ae
            refine .inl ⟨rfl, ?_⟩
            refine e_op ?_
            refine e_b ?_
            refine a_cons ?_
            refine e_var (d := .tuple es) rfl ?_
            refine a_nil ?_
            refine gd (a := .int (es.length : Nat)) rfl ?_
            refine e_b ?_
            refine a_cons ?_
            refine e_var (d := .tuple ks) rfl ?_
            refine a_nil ?_
            refine gd (a := .int (ks.length : Nat)) rfl ?_
            exact gd (eq_nat _ _) ⟨rfl, rfl⟩
        · rw [List.filter_eq_self.mpr (fun _ _ => rfl)]
          refine a_nil ?_
          refine gd (all_bool (fun x => areB x && decide (lenT x = ks.length)) cs) ⟨_, rfl, ?_⟩
          have sz : sizeB (.tuple [.tuple cs, .tuple rs, .tuple ks, w]) = if (cs.all fun x => areB x && decide (lenT x = ks.length)) = true then some (rs.length, ks.length) else none := by
            rw [size4, ar, ak, aw]
            show (if (decide (cs.length = rs.length) && _) = true then _ else _) = _
            rw [decide_eq_true cl, Bool.true_and]
            rfl
          cases al : (cs.all fun x => areB x && decide (lenT x = ks.length)) with
          | false =>
            rw [al, if_neg (by simp)] at sz
            exact .inl ⟨rfl, stop sz⟩
          | true =>
            rw [al, if_pos rfl] at sz
            refine .inr ⟨rfl, ?_⟩
            refine s_nil ?_
            refine s_ret ?_
            refine e_tup ?_
            refine a_cons ?_
            refine e_b ?_
            refine a_cons ?_
            refine e_var (d := .tuple rs) rfl ?_
            refine a_nil ?_
            refine gd (a := .int (rs.length : Nat)) rfl ?_
            refine a_cons ?_
            refine e_b ?_
            refine a_cons ?_
            refine e_var (d := .tuple ks) rfl ?_
            refine a_nil ?_
            refine gd (a := .int (ks.length : Nat)) rfl ?_
            refine a_nil ?_
            refine ⟨by show 2 ≤ _; decide, ?_⟩
            rw [sz]
            rfl
      · refine .inl ⟨by rw [decide_eq_false cl]; rfl, stop ?_⟩
        rw [size4, ar, ak, aw]
        show (if (decide (cs.length = rs.length) && _) = true then _ else _) = _
        rw [decide_eq_false cl, Bool.false_and]
        rfl
/-! #### a table drawn has its size -/
theorem th_q {f : Qt} (h : OkQ f) : Th (qD f) := ⟨rfl, rfl, fun i e => by
  cases e
  have := h.2.2.2
  have := h.1
  omega⟩
theorem frac_q {f : Qt} (h : OkQ f) : fracB (qD f) = true := by
  show (decide (0 < f.2) && decide (Nat.gcd f.1.natAbs f.2.natAbs = 1)) = true
  rw [decide_eq_true h.1, decide_eq_true h.2.1]
  rfl
theorem ta_row {r : List Qt} (few : r.length ≤ 100) (h : ∀ f ∈ r, OkQ f) : Ta (rowD r) := .inl ⟨_, rfl, by rw [List.length_map]; exact few, fun x hx => by
  obtain ⟨f, hf, rfl⟩ := List.mem_map.mp hx
  exact th_q (h f hf)⟩
theorem are_row {r : List Qt} (few : 1 ≤ r.length ∧ r.length ≤ 8) (h : ∀ f ∈ r, OkQ f) : areB (rowD r) = true := by
  unfold rowD
  rw [are_t, List.length_map, decide_eq_true few.1, decide_eq_true few.2, Bool.true_and, Bool.true_and, List.all_map, List.all_eq_true]
  exact fun f hf => frac_q (h f hf)
theorem len_row (r : List Qt) : lenT (rowD r) = r.length := List.length_map _
theorem tz_tab {R C : Nat} {t : Tb} (o : OkT R C t) : Tz (tabD t) := by
  have few := o.few
  refine .inr (.inr ⟨_, _, _, _, rfl, ta_row (by rw [o.lr]; omega) o.rows, ta_row (by rw [o.lc]; omega) o.cols, th_q o.whole, .inr ⟨_, rfl, by rw [List.length_map, o.len]; omega, fun x hx => ?_⟩⟩)
  obtain ⟨r, hr, rfl⟩ := List.mem_map.mp hx
  exact ta_row (by rw [o.wid r hr]; omega) (o.cells r hr)
theorem size_tab {R C : Nat} {t : Tb} (o : OkT R C t) : sizeB (tabD t) = some (R, C) := by
  have few := o.few
  unfold tabD
  rw [size4, are_row (by rw [o.lr]; omega) o.rows, are_row (by rw [o.lc]; omega) o.cols, frac_q o.whole]
  show (if (decide ((t.cells.map rowD).length = lenT (rowD t.rows)) && _) = true then _ else _) = _
  rw [List.length_map, len_row, len_row, o.len, o.lr, o.lc, decide_eq_true rfl, Bool.true_and, if_pos]
  rw [List.all_map, List.all_eq_true]
  intro r hr
  show (areB (rowD r) && decide (lenT (rowD r) = C)) = true
  rw [are_row (by rw [o.wid r hr]; omega) (o.cells r hr), len_row, o.wid r hr, decide_eq_true rfl]
  rfl
end K62

/-! tables added, by the program and by the law; what repr tells -/
namespace K62
open PySem PySem.Spec PyProof.Rows L2 Dl
theorem len_cat (x y : Str) : (x ++ y).length = x.length + y.length := PySem.Str.length_append x y
/-! ### what repr writes is short -/
theorem piled_few {m : Nat} : ∀ ts : List Str, (∀ t ∈ ts, t.length ≤ m) → piled ts ≤ ts.length * (m + 2)
  | [], _ => by rw [piled_nil]; omega
  | t :: r, h => by
    have a := h t List.mem_cons_self
    have b := piled_few r fun x hx => h x (List.mem_cons_of_mem _ hx)
    rw [piled_cons, List.length_cons, Nat.add_mul]
    omega
theorem join_few (ts : List Str) : (Str.join ", " ts).length ≤ piled ts := by
  by_cases h : ts = []
  · subst h
    exact Nat.le_refl 0
  · have := join_length_add ts h
    omega
theorem from_few : ∀ (ts : List Str) (k : Nat) (acc : Str), (textFrom k acc ts).length ≤ acc.length + piled ts
  | [], k, acc => by rw [textFrom, piled_nil]; omega
  | t :: r, k, acc => by
    have a := from_few r (k + 1) (acc ++ (if k > 0 then ", " else "" : String) ++ t)
    have l : ((if k > 0 then ", " else "" : String) : Str).length ≤ 2 := by split <;> decide
    rw [len_cat, len_cat] at a
    rw [textFrom, piled_cons]
    omega
theorem tup_few (ts : List Str) : (tupleText ts).length ≤ piled ts + 4 := by
  unfold tupleText
  rw [len_cat, len_cat]
  have a := join_few ts
  have e1 : ((("(" : String) : Str)).length = 1 := rfl
  have e3 : (((if ts.length == 1 then ",)" else ")" : String) : Str)).length ≤ 2 := by split <;> decide
  omega
theorem list_few (ts : List Str) : (listText ts).length ≤ piled ts + 4 := by
  unfold listText
  rw [len_cat]
  have a := from_few ts 0 "["
  have e1 : ((("[" : String) : Str)).length = 1 := rfl
  have e2 : ((("]" : String) : Str)).length = 1 := rfl
  omega

theorem int_few {i : Int} (h : i.natAbs < 2 ^ 200) : (PyData.int i).shown.length ≤ 202 := by
  have l : i.natAbs.log2 < 200 := by
    by_cases z : i.natAbs = 0
    · rw [z]; decide
    · exact (Nat.log2_lt z).mpr h
  have a := int_text_length_le (by decide) l
  simp only [PyData.shown]
  rw [PySem.ofString_length]
  omega
theorem int_shows {i : Int} (h : i.natAbs < 2 ^ 200) : (PyData.int i).showable = true := by
  rw [PyData.showable]
  refine decide_eq_true ?_
  by_cases z : i.natAbs = 0
  · rw [z]; decide
  · exact Nat.lt_of_lt_of_le ((Nat.log2_lt z).mpr h) (by decide)

structure Sh (d : PyData) (k n : Nat) : Prop where
  s : d.showable = true
  r : realAll d = true
  dp : d.depth ≤ k
  l : d.shown.length ≤ n
theorem Sh.mono {d : PyData} {k n k' n' : Nat} (h : Sh d k n) (hk : k ≤ k') (hn : n ≤ n') : Sh d k' n' := ⟨h.s, h.r, Nat.le_trans h.dp hk, Nat.le_trans h.l hn⟩
theorem sh_int {i : Int} (h : i.natAbs < 2 ^ 200) : Sh (.int i) 0 202 := ⟨int_shows h, by simp [realAll], by simp [PyData.depth], int_few h⟩
theorem sh_all {k n : Nat} : ∀ {ds : List PyData}, (∀ x ∈ ds, Sh x k n) → PyData.showableAll ds = true ∧ realAlls ds = true ∧ PyData.depthAll ds ≤ k ∧ (∀ t ∈ PyData.shownAll ds, t.length ≤ n) ∧ (PyData.shownAll ds).length = ds.length
  | [], _ => ⟨by rw [PyData.showableAll], by rw [realAlls], by rw [PyData.depthAll]; exact Nat.zero_le _, (fun t ht => by rw [PyData.shownAll] at ht; cases ht), by rw [PyData.shownAll]; rfl⟩
  | d :: r, h => by
    obtain ⟨h1, h2, h3, h4, h5⟩ := sh_all (ds := r) fun x hx => h x (List.mem_cons_of_mem _ hx)
    have hd := h d List.mem_cons_self
    refine ⟨by rw [PyData.showableAll, hd.s, h1]; rfl, by rw [realAlls, hd.r, h2]; rfl, by rw [PyData.depthAll]; exact Nat.max_le.mpr ⟨hd.dp, h3⟩, fun t ht => ?_, by rw [PyData.shownAll, List.length_cons, List.length_cons, h5]⟩
    rw [PyData.shownAll] at ht
    rcases List.mem_cons.mp ht with z | z
    · rw [z]; exact hd.l
    · exact h4 t z
theorem sh_tup {k n : Nat} {ds : List PyData} (h : ∀ x ∈ ds, Sh x k n) : Sh (.tuple ds) (k + 1) (ds.length * (n + 2) + 4) := by
  obtain ⟨h1, h2, h3, h4, h5⟩ := sh_all h
  refine ⟨by rw [PyData.showable]; exact h1, by rw [realAll]; exact h2, by rw [PyData.depth]; omega, ?_⟩
  simp only [PyData.shown]
  have a := tup_few (PyData.shownAll ds)
  have b := piled_few _ h4
  rw [h5] at b
  omega
def Small (f : Qt) : Prop := f.1.natAbs < 2 ^ 200 ∧ f.2.natAbs < 2 ^ 200
theorem sh_q {f : Qt} (h : Small f) : Sh (qD f) 1 412 := (sh_tup (k := 0) (n := 202) (ds := [.int f.1, .int f.2]) fun x hx => by
  simp only [List.mem_cons, List.not_mem_nil, or_false] at hx
  rcases hx with rfl | rfl
  · exact sh_int h.1
  · exact sh_int h.2).mono (Nat.le_refl _) (by show 2 * (202 + 2) + 4 ≤ 412; decide)
theorem sh_row {r : List Qt} (few : r.length ≤ 8) (h : ∀ f ∈ r, Small f) : Sh (rowD r) 2 4000 := (sh_tup (k := 1) (n := 412) fun x hx => by
  obtain ⟨f, hf, rfl⟩ := List.mem_map.mp hx
  exact sh_q (h f hf)).mono (Nat.le_refl _) (by rw [List.length_map]; omega)
structure SmT (t : Tb) : Prop where
  len : t.cells.length ≤ 8
  wid : ∀ r ∈ t.cells, r.length ≤ 8
  lr : t.rows.length ≤ 8
  lc : t.cols.length ≤ 8
  cells : ∀ r ∈ t.cells, ∀ f ∈ r, Small f
  rows : ∀ f ∈ t.rows, Small f
  cols : ∀ f ∈ t.cols, Small f
  whole : Small t.whole
theorem sh_tab {t : Tb} (h : SmT t) : Sh (tabD t) 4 200000 := (sh_tup (k := 3) (n := 40000) fun x hx => by
  simp only [List.mem_cons, List.not_mem_nil, or_false] at hx
  rcases hx with rfl | rfl | rfl | rfl
  · refine (sh_tup (k := 2) (n := 4000) fun x hx => ?_).mono (Nat.le_refl _) (by rw [List.length_map]; have := h.len; omega)
    obtain ⟨r, hr, rfl⟩ := List.mem_map.mp hx
    exact sh_row (h.wid r hr) (h.cells r hr)
  · exact (sh_row h.lr h.rows).mono (by decide) (by decide)
  · exact (sh_row h.lc h.cols).mono (by decide) (by decide)
  · exact (sh_q h.whole).mono (by decide) (by decide)).mono (Nat.le_refl _) (by show 4 * (40000 + 2) + 4 ≤ 200000; decide)
theorem repr_tab {t : Tb} (h : SmT t) : gRepr [tabD t] = some (.str (tabD t).shown) := by
  have s := sh_tab h
  have e : ((((tabD t).showable && realAll (tabD t)) && decide ((tabD t).shown.length ≤ sizeLine)) && decide ((tabD t).depth ≤ 60)) = true := by
    rw [s.s, s.r, decide_eq_true (Nat.le_trans s.l (by decide)), decide_eq_true (Nat.le_trans s.dp (by decide))]
    rfl
  show (if _ then _ else _) = _
  exact if_pos e
/-! #### added -/
/-- a comprehension with several names whose parts change nothing -/
theorem f_lcT_pure {α : Type} {ff : DF} {js : List Nat} {gdt : PyData → Sl → Option Sl} {t : DT} {fa : DE} {s : Sl} {QA : List PyData → Sl → Prop} (enc : α → PyData) (T : α → Bool) (F : α → PyData)
    (h : Ge (ff s) fun ds s1 => ∃ as : List α, ds = as.map enc ∧ (js.all fun j => isNo s1[j]?) = true ∧ as.length < sizeLine ∧ (∀ a ∈ as, ∃ s0, gdt (enc a) s1 = some s0 ∧ fgS s0 js = s1 ∧ noOwnB js s0 = true ∧ Ge (t s0) (fun b s2 => b = T a ∧ s2 = s0) ∧ (T a = true → Ge (fa s0) fun x s2 => x = F a ∧ s2 = s0)) ∧ QA ((as.filter T).map F) s1) : Ge (fLcT ff js gdt t fa s) QA := by
  obtain ⟨ds, s1, e, as, rfl, no, l, turn, k⟩ := h
  have hno : ∀ j ∈ js, s1[j]? = some .no := fun j hj => isNo_eq (List.all_eq_true.mp no j hj)
  have f1 : fgS s1 js = s1 := fgS_no hno
  have go : ∀ (bs : List α) (sw : Sl), (∀ a ∈ bs, a ∈ as) → fgS sw js = s1 → lcRunT js gdt t fa (bs.map enc) sw = some ((bs.filter T).map F, s1) := by
    intro bs
    induction bs with
    | nil => intro sw _ hw; show some ([], fgS sw js) = _; rw [hw]; rfl
    | cons a r ih =>
      intro sw sub hw
      obtain ⟨s0, g1, g2, g3, tb, fb⟩ := turn a (sub a List.mem_cons_self)
      obtain ⟨b, s2, e2, rfl, rfl⟩ := tb
      have rest := ih s2 (fun x hx => sub x (List.mem_cons_of_mem _ hx)) g2
      rw [List.map_cons]
      unfold lcRunT
      rw [hw, g1, Option.bind_some, e2, Option.bind_some]
      dsimp only
      rw [if_pos g3]
      cases hT : T a with
      | true =>
        obtain ⟨x, s3, e3, rfl, rfl⟩ := fb hT
        rw [if_pos rfl, e3, Option.bind_some]
        dsimp only
        rw [if_pos g3, rest, List.filter_cons_of_pos hT]
        rfl
      | false =>
        rw [if_neg (by simp), rest, List.filter_cons_of_neg (by simp [hT])]
  refine ⟨_, s1, ?_, k⟩
  unfold fLcT
  rw [e, Option.bind_some]
  dsimp only
  rw [if_pos ⟨no, by rw [List.length_map]; exact l⟩]
  exact go as s1 (fun _ h => h) f1
theorem f_itZB {fa fb : DE} {s : Sl} {QA : List PyData → Sl → Prop} (h : Ge (fa s) fun a s1 => Ge (fb s1) fun b s2 => ∃ t1 xs t2 ys, sqD a = some (t1, xs) ∧ sqD b = some (t2, ys) ∧ QA (List.zipWith (fun x y => .tuple [x, y]) xs ys) s2) : Ge (itZB fa fb s) QA := by
  obtain ⟨a, s1, e1, b, s2, e2, t1, xs, t2, ys, e3, e4, k⟩ := h
  exact ⟨_, s2, by unfold itZB; rw [e1, Option.bind_some, e2, Option.bind_some, e3, Option.bind_some, e4]; rfl, k⟩
def plusQ (f g : Qt) : Qt := frac (f.1 * g.2 + g.1 * f.2) (f.2 * g.2)
theorem plusQ_comm (f g : Qt) : plusQ f g = plusQ g f := by
  unfold plusQ
  rw [Int.add_comm, Int.mul_comm f.2 g.2]
theorem mul_few {a b : Int} {m n : Nat} (ha : a.natAbs ≤ m) (hb : b.natAbs ≤ n) : (a * b).natAbs ≤ m * n := by
  rw [Int.natAbs_mul]
  exact Nat.mul_le_mul ha hb
theorem q_few {f : Qt} (h : OkQ f) : f.1.natAbs ≤ 10 ^ 20 ∧ f.2.natAbs ≤ 10 ^ 10 ∧ f.2 ≠ 0 := by
  obtain ⟨h1, _, h3, h4⟩ := h
  exact ⟨h3, by omega, by omega⟩
theorem plus_small {f g : Qt} (hf : OkQ f) (hg : OkQ g) : Small (plusQ f g) ∧ f.2 * g.2 ≠ 0 ∧ (f.2 * g.2).natAbs < 2 ^ 200 := by
  obtain ⟨a1, a2, a3⟩ := q_few hf
  obtain ⟨b1, b2, b3⟩ := q_few hg
  have n0 : f.2 * g.2 ≠ 0 := Int.mul_ne_zero a3 b3
  have m1 := mul_few a1 b2
  have m2 := mul_few b1 a2
  have m3 := mul_few a2 b2
  obtain ⟨a, b, ha, hb, b0, ab, e⟩ := parts (p := f.1 * g.2 + g.1 * f.2) n0
  have la := quot_le ha (G_ne n0)
  have lb := quot_le hb (G_ne n0)
  have e2 : plusQ f g = (a, b) := by
    rw [F_frac] at e
    unfold qD at e
    injection e with e
    injection e with f1 f2
    injection f2 with f2 _
    injection f1 with f1
    injection f2 with f2
    exact Prod.ext f1 f2
  have s1 : (f.1 * g.2 + g.1 * f.2).natAbs ≤ 10 ^ 20 * 10 ^ 10 + 10 ^ 20 * 10 ^ 10 := Nat.le_trans (Int.natAbs_add_le _ _) (Nat.add_le_add m1 m2)
  have c1 : 10 ^ 20 * 10 ^ 10 + 10 ^ 20 * 10 ^ 10 < 2 ^ 200 := by decide
  have c2 : 10 ^ 10 * 10 ^ 10 < 2 ^ 200 := by decide
  rw [e2]
  exact ⟨⟨Nat.lt_of_le_of_lt (Nat.le_trans la s1) c1, Nat.lt_of_le_of_lt (Nat.le_trans lb m3) c2⟩, n0, Nat.lt_of_le_of_lt m3 c2⟩
theorem ix0 (f : Qt) : gIx (qD f) (.int 0) = some (.int f.1) := rfl
theorem ix1 (f : Qt) : gIx (qD f) (.int 1) = some (.int f.2) := rfl
theorem arg_ok {f g : Qt} (hf : OkQ f) (hg : OkQ g) {i j : Nat} {s : Sl} (hi : s[i]? = some (.dat (qD f))) (hj : s[j]? = some (.dat (qD g))) {Q : List PyData → Sl → Prop} (k : Q [.int (f.1 * g.2 + g.1 * f.2), .int (f.2 * g.2)] s) :
    Ge ((aCons (dOp gAdd (dOp gMulB (dOp gIx (dVar i) (dC (.int 0))) (dOp gIx (dVar j) (dC (.int 1)))) (dOp gMulB (dOp gIx (dVar j) (dC (.int 0))) (dOp gIx (dVar i) (dC (.int 1))))) (aCons (dOp gMulB (dOp gIx (dVar i) (dC (.int 1))) (dOp gIx (dVar j) (dC (.int 1)))) aNil)) s) Q := by
  obtain ⟨a1, a2, a3⟩ := q_few hf
  obtain ⟨b1, b2, b3⟩ := q_few hg
  have c1 : (10 : Nat) ^ 20 < 2 ^ 100 := by decide
  have c2 : (10 : Nat) ^ 10 < 2 ^ 100 := by decide
  have c3 : (2 : Int) ^ 100 = ((2 ^ 100 : Nat) : Int) := by decide
  refine a_cons ?_
  refine e_op ?_
  refine e_op ?_
  refine e_op ?_
  refine e_var hi ?_
  refine e_c ?_
  refine gd (ix0 f) ?_
  refine e_op ?_
  refine e_var hj ?_
  refine e_c ?_
  refine gd (ix1 g) ?_
  refine n_mul 100 (by omega) (by omega) (by omega) (by omega) (by decide) (by decide) ?_
  refine e_op ?_
  refine e_op ?_
  refine e_var hj ?_
  refine e_c ?_
  refine gd (ix0 g) ?_
  refine e_op ?_
  refine e_var hi ?_
  refine e_c ?_
  refine gd (ix1 f) ?_
  refine n_mul 100 (by omega) (by omega) (by omega) (by omega) (by decide) (by decide) ?_
  refine n_add ?_
  refine a_cons ?_
  refine e_op ?_
  refine e_op ?_
  refine e_var hi ?_
  refine e_c ?_
  refine gd (ix1 f) ?_
  refine e_op ?_
  refine e_var hj ?_
  refine e_c ?_
  refine gd (ix1 g) ?_
  refine n_mul 100 (by omega) (by omega) (by omega) (by omega) (by decide) (by decide) ?_
  refine a_nil ?_
  exact k
theorem plus_ok {f g : Qt} (hf : OkQ f) (hg : OkQ g) : Gd (m_plus [qD f, qD g]) fun q => q = qD (plusQ f g) := by
  obtain ⟨_, n0, few⟩ := plus_small hf hg
  unfold m_plus
  refine m_fnP rfl ?_
  show Gs (b_plus [.dat (qD f), .dat (qD g)]) _ _
  unfold b_plus
  refine s_ret ?_
  refine e_call ?_
  refine arg_ok hf hg rfl rfl ?_
  exact gd_mono (fraction_ok n0 few) fun q hq => hq
theorem law_plus_ok {f g : Qt} (hf : OkQ f) (hg : OkQ g) : Gd (m__law_plus [qD f, qD g]) fun q => q = qD (plusQ f g) := by
  obtain ⟨_, n0, few⟩ := plus_small hf hg
  unfold m__law_plus
  refine m_fnP rfl ?_
  show Gs (b__law_plus [.dat (qD f), .dat (qD g)]) _ _
  unfold b__law_plus
  refine s_ret ?_
  refine e_call ?_
  refine arg_ok hf hg rfl rfl ?_
  exact gd_mono (law_fraction_ok n0 few) fun q hq => hq
def plusR (r s : List Qt) : List Qt := List.zipWith plusQ r s
def enc2 (p : Qt × Qt) : PyData := .tuple [qD p.1, qD p.2]
theorem zip_enc : ∀ (r s : List Qt), List.zipWith (fun x y => PyData.tuple [x, y]) (r.map qD) (s.map qD) = (r.zip s).map enc2
  | [], _ => rfl
  | _ :: _, [] => rfl
  | a :: r, b :: s => by
    rw [List.map_cons, List.map_cons, List.zipWith_cons_cons, zip_enc r s]
    rfl
theorem zip_plus : ∀ (r s : List Qt), (r.zip s).map (fun p => qD (plusQ p.1 p.2)) = (plusR r s).map qD
  | [], _ => rfl
  | _ :: _, [] => rfl
  | a :: r, b :: s => by
    rw [List.zip_cons_cons, List.map_cons, zip_plus r s]
    rfl
theorem mem_zip {α β : Type} {r : List α} {s : List β} {p : α × β} (h : p ∈ r.zip s) : p.1 ∈ r ∧ p.2 ∈ s := by
  obtain ⟨a, b⟩ := p
  exact List.of_mem_zip h
theorem sq_row (r : List Qt) : sqD (rowD r) = some (true, r.map qD) := rfl
end K62

/-! tables added: what is told, what is refused -/
namespace K62
open PySem PySem.Spec PyProof.Rows L2 Dl
structure Gx (o : Option Fx) (N : Sl → Prop) (R : PyData → Sl → Prop) (E : Str → Prop) : Prop where
  ex : (∃ s, o = some (.fl (.nx s)) ∧ N s) ∨ (∃ d s, o = some (.fl (.rt d s)) ∧ R d s) ∨ ∃ c s, o = some (.ex c s) ∧ E c
section
variable {N : Sl → Prop} {R : PyData → Sl → Prop} {E : Str → Prop} {s : Sl} {f g : DSx} {fs : DS} {t : DT} {ga : DA}
theorem x_up (h : Gs (fs s) N R) : Gx (xsUp fs s) N R E := by
  obtain ⟨⟨s1, e, k⟩ | ⟨d, s1, e, k⟩⟩ := h
  · exact ⟨.inl ⟨s1, by unfold xsUp; rw [e]; rfl, k⟩⟩
  · exact ⟨.inr (.inl ⟨d, s1, by unfold xsUp; rw [e]; rfl, k⟩)⟩
theorem x_seq (h : Gx (f s) (fun s1 => Gx (g s1) N R E) R E) : Gx (xsSeq f g s) N R E := by
  obtain ⟨⟨s1, e, h⟩ | ⟨d, s1, e, h⟩ | ⟨c, s1, e, h⟩⟩ := h
  · have q : xsSeq f g s = g s1 := by unfold xsSeq; rw [e]; rfl
    rw [q]; exact h
  · exact ⟨.inr (.inl ⟨d, s1, by unfold xsSeq; rw [e]; rfl, h⟩)⟩
  · exact ⟨.inr (.inr ⟨c, s1, by unfold xsSeq; rw [e]; rfl, h⟩)⟩
theorem x_if (h : Ge (t s) fun b s1 => (b = true ∧ Gx (f s1) N R E) ∨ (b = false ∧ Gx (g s1) N R E)) : Gx (xsIf t f g s) N R E := by
  obtain ⟨b, s1, e, ⟨rfl, h⟩ | ⟨rfl, h⟩⟩ := h
  · have q : xsIf t f g s = f s1 := by unfold xsIf; rw [e]; simp
    rw [q]; exact h
  · have q : xsIf t f g s = g s1 := by unfold xsIf; rw [e]; simp
    rw [q]; exact h
theorem x_raise {c : Str} (k : E c) : Gx (xsRaise c s) N R E := ⟨.inr (.inr ⟨c, s, rfl, k⟩)⟩
theorem x_drop {m : List PyData → Option (Rx PyData)} (h : Ge (ga s) fun ds s1 => Gd (m ds) fun r => (∃ d, r = .ok d ∧ N s1) ∨ ∃ c, r = .ex c ∧ E c) : Gx (xsDrop (xCall m ga) s) N R E := by
  obtain ⟨ds, s1, e, r, e2, ⟨d, rfl, k⟩ | ⟨c, rfl, k⟩⟩ := h
  · exact ⟨.inl ⟨s1, by unfold xsDrop xCall; rw [e, Option.bind_some, e2]; rfl, k⟩⟩
  · exact ⟨.inr (.inr ⟨c, s1, by unfold xsDrop xCall; rw [e, Option.bind_some, e2]; rfl, k⟩)⟩
theorem m_fnX {M : List Str} {n : Nat} {b : DSx} {ds : List PyData} {q : Rx PyData → Prop} (l : ds.length = n) (h : Gx (b (startS M ds)) (fun _ => q (.ok .none)) (fun d _ => q (.ok d)) fun c => q (.ex c)) : Gd (fnX M n b ds) q := by
  obtain ⟨⟨s1, e, k⟩ | ⟨d, s1, e, k⟩ | ⟨c, s1, e, k⟩⟩ := h
  · exact ⟨_, by unfold fnX; rw [if_pos l, e]; rfl, k⟩
  · exact ⟨_, by unfold fnX; rw [if_pos l, e]; rfl, k⟩
  · exact ⟨_, by unfold fnX; rw [if_pos l, e]; rfl, k⟩
theorem ok_gd {m : List PyData → Option (Rx PyData)} {ds : List PyData} {d : PyData} {D : PyData → Prop} (h : Gd (m ds) fun r => r = .ok d) (k : D d) : Gd (okOf m ds) D := by
  obtain ⟨r, e, rfl⟩ := h
  exact ⟨d, by unfold okOf; rw [e], k⟩
end
structure Gy (o : Option Fx) (N : Sl → Prop) (E : Str → Sl → Prop) : Prop where
  ex : (∃ s, o = some (.fl (.nx s)) ∧ N s) ∨ ∃ c s, o = some (.ex c s) ∧ E c s
section
variable {N : Sl → Prop} {R : PyData → Sl → Prop} {E : Str → Sl → Prop} {s : Sl} {f g : DSx} {t : DT} {ga : DA}
theorem y_if (h : Ge (t s) fun b s1 => (b = true ∧ Gy (f s1) N E) ∨ (b = false ∧ Gy (g s1) N E)) : Gy (xsIf t f g s) N E := by
  obtain ⟨b, s1, e, ⟨rfl, h⟩ | ⟨rfl, h⟩⟩ := h
  · have q : xsIf t f g s = f s1 := by unfold xsIf; rw [e]; simp
    rw [q]; exact h
  · have q : xsIf t f g s = g s1 := by unfold xsIf; rw [e]; simp
    rw [q]; exact h
theorem y_drop {m : List PyData → Option (Rx PyData)} (h : Ge (ga s) fun ds s1 => Gd (m ds) fun r => (∃ d, r = .ok d ∧ N s1) ∨ ∃ c, r = .ex c ∧ E c s1) : Gy (xsDrop (xCall m ga) s) N E := by
  obtain ⟨ds, s1, e, r, e2, ⟨d, rfl, k⟩ | ⟨c, rfl, k⟩⟩ := h
  · exact ⟨.inl ⟨s1, by unfold xsDrop xCall; rw [e, Option.bind_some, e2]; rfl, k⟩⟩
  · exact ⟨.inr ⟨c, s1, by unfold xsDrop xCall; rw [e, Option.bind_some, e2]; rfl, k⟩⟩
theorem s_tryW {nm : List Str} {i : Nat} {gs : DS} (h : Gy (f s) N fun c s1 => c ∈ nm ∧ Gs (gs (s1.set i (.dat (excD c)))) (fun _ => False) R) : Gs (sTryW nm i f gs s) N R := by
  obtain ⟨⟨s1, e, k⟩ | ⟨c, s1, e, hc, ⟨⟨s2, e2, z⟩ | ⟨d, s2, e2, k⟩⟩⟩⟩ := h
  · exact ⟨.inl ⟨s1, by unfold sTryW; rw [e]; rfl, k⟩⟩
  · exact z.elim
  · exact ⟨.inr ⟨d, s2, by unfold sTryW; rw [e, Option.bind_some]; dsimp only; rw [if_pos hc, e2]; rfl, k⟩⟩
end

/-- tuple([plus(x, y) for x, y in zip(..)]) -/
theorem row_plus {m : List PyData → Option PyData} (hm : ∀ {f g : Qt}, OkQ f → OkQ g → Gd (m [qD f, qD g]) fun q => q = qD (plusQ f g)) {r t : List Qt} (hr : ∀ f ∈ r, OkQ f) (ht : ∀ f ∈ t, OkQ f) (few : r.length ≤ 8) {fa fb : DE} {j k : Nat} {s : Sl}
    (ha : ∀ {Q : PyData → Sl → Prop}, Q (rowD r) s → Ge (fa s) Q) (hb : ∀ {Q : PyData → Sl → Prop}, Q (rowD t) s → Ge (fb s) Q) (nj : isNo s[j]? = true) (nk : isNo s[k]? = true) (ne : j ≠ k) {Q : PyData → Sl → Prop} (kk : Q (rowD (plusR r t)) s) :
    Ge (dB gTuple (aCons (dL (fLcT (itZB fa fb) [j, k] (tgT [tgN j, tgN k]) tYesD (dCall m (aCons (dVar j) (aCons (dVar k) aNil))))) aNil) s) Q := by
  have lj : j < s.length := by
    rcases Nat.lt_or_ge j s.length with z | z
    · exact z
    · rw [List.getElem?_eq_none z] at nj; cases nj
  have lk : k < s.length := by
    rcases Nat.lt_or_ge k s.length with z | z
    · exact z
    · rw [List.getElem?_eq_none z] at nk; cases nk
  refine e_b ?_
  refine a_cons ?_
  refine e_l ?_
  refine f_lcT_pure enc2 (fun _ => true) (fun p => qD (plusQ p.1 p.2)) ?_
  refine f_itZB ?_
  refine ha ?_
  refine hb ?_
  refine ⟨_, _, _, _, sq_row r, sq_row t, r.zip t, zip_enc r t, by rw [List.all_cons, List.all_cons, List.all_nil, nj, nk]; rfl, ?_, fun p hp => ?_, ?_⟩
  · rw [List.length_zip]
    exact Nat.lt_of_le_of_lt (show min r.length t.length ≤ 8 by omega) (by decide)
  · obtain ⟨h1, h2⟩ := mem_zip hp
    have e1 : ((s.set j (.dat (qD p.1))).set k (.dat (qD p.2)))[j]? = some (.dat (qD p.1)) := by
      rw [List.getElem?_set_ne ne.symm, List.getElem?_set_self lj]
    have e2 : ((s.set j (.dat (qD p.1))).set k (.dat (qD p.2)))[k]? = some (.dat (qD p.2)) := by
      rw [List.getElem?_set_self (by rw [List.length_set]; exact lk)]
    refine ⟨(s.set j (.dat (qD p.1))).set k (.dat (qD p.2)), rfl, ?_, ?_, t_yes ⟨rfl, rfl⟩, fun _ => ?_⟩
    · show (((s.set j (.dat (qD p.1))).set k (.dat (qD p.2))).set k .no).set j .no = s
      rw [List.set_set]
      have c : ((s.set j (.dat (qD p.1))).set k .no).set j .no = ((s.set k .no).set j .no) := by
        rw [List.set_comm _ _ ne.symm, List.set_set, List.set_comm _ _ ne]
      rw [c, set_no (isNo_eq nk), set_no (isNo_eq nj)]
    · unfold noOwnB
      rw [List.all_cons, List.all_cons, List.all_nil, e1, e2]
      rfl
    · refine e_call ?_
      refine a_cons ?_
      refine e_var e1 ?_
      refine a_cons ?_
      refine e_var e2 ?_
      refine a_nil ?_
      exact gd_mono (hm (hr _ h1) (ht _ h2)) fun q hq => ⟨hq, rfl⟩
  · rw [List.filter_eq_self.mpr (fun _ _ => rfl), zip_plus]
    refine a_nil ?_
    exact gd rfl kk
theorem row_plus_ok {r t : List Qt} (hr : ∀ f ∈ r, OkQ f) (ht : ∀ f ∈ t, OkQ f) (few : r.length ≤ 8) : Gd (m__row_plus [rowD r, rowD t]) fun q => q = rowD (plusR r t) := by
  unfold m__row_plus
  refine m_fnP rfl ?_
  show Gs (b__row_plus [.dat (rowD r), .dat (rowD t), .no, .no]) _ _
  unfold b__row_plus
  refine s_ret ?_
  exact row_plus plus_ok hr ht few (fun h => e_var rfl h) (fun h => e_var rfl h) rfl rfl (by decide) rfl
def plusT (t u : Tb) : Tb := ⟨List.zipWith plusR t.cells u.cells, plusR t.rows u.rows, plusR t.cols u.cols, plusQ t.whole u.whole⟩
theorem plusR_comm (r t : List Qt) : plusR r t = plusR t r := by
  unfold plusR
  exact List.zipWith_comm_of_comm (fun a b => plusQ_comm a b)
theorem plusT_comm (t u : Tb) : plusT t u = plusT u t := by
  unfold plusT
  rw [plusR_comm t.rows, plusR_comm t.cols, plusQ_comm t.whole, List.zipWith_comm_of_comm (fun a b => plusR_comm a b)]
theorem mem_plusR {r t : List Qt} {f : Qt} (h : f ∈ plusR r t) : ∃ a ∈ r, ∃ b ∈ t, f = plusQ a b := by
  unfold plusR at h
  rw [← List.map_uncurry_zip_eq_zipWith] at h
  obtain ⟨p, hp, e⟩ := List.mem_map.mp h
  obtain ⟨h1, h2⟩ := mem_zip hp
  exact ⟨p.1, h1, p.2, h2, e.symm⟩
theorem small_row {r t : List Qt} (hr : ∀ f ∈ r, OkQ f) (ht : ∀ f ∈ t, OkQ f) : ∀ f ∈ plusR r t, Small f := fun f hf => by
  obtain ⟨a, ha, b, hb, rfl⟩ := mem_plusR hf
  exact (plus_small (hr a ha) (ht b hb)).1
theorem len_plusR (r t : List Qt) : (plusR r t).length = min r.length t.length := List.length_zipWith
theorem mem_cells {t u : Tb} {f : List Qt} (h : f ∈ List.zipWith plusR t.cells u.cells) : ∃ a ∈ t.cells, ∃ b ∈ u.cells, f = plusR a b := by
  rw [← List.map_uncurry_zip_eq_zipWith] at h
  obtain ⟨p, hp, e⟩ := List.mem_map.mp h
  obtain ⟨h1, h2⟩ := mem_zip hp
  exact ⟨p.1, h1, p.2, h2, e.symm⟩
theorem sm_plus {R C : Nat} {t u : Tb} (o : OkT R C t) (v : OkT R C u) : SmT (plusT t u) := by
  have few := o.few
  refine ⟨?_, fun r hr => ?_, ?_, ?_, fun r hr => ?_, small_row o.rows v.rows, small_row o.cols v.cols, (plus_small o.whole v.whole).1⟩
  · show (List.zipWith plusR t.cells u.cells).length ≤ 8
    rw [List.length_zipWith, o.len]; omega
  · obtain ⟨a, ha, b, hb, rfl⟩ := mem_cells hr
    rw [len_plusR, o.wid a ha]; omega
  · show (plusR t.rows u.rows).length ≤ 8
    rw [len_plusR, o.lr]; omega
  · show (plusR t.cols u.cols).length ≤ 8
    rw [len_plusR, o.lc]; omega
  · obtain ⟨a, ha, b, hb, rfl⟩ := mem_cells hr
    exact small_row (o.cells a ha) (v.cells b hb)
theorem ixt (t : Tb) : gIx (tabD t) (.int 0) = some (.tuple (t.cells.map rowD)) ∧ gIx (tabD t) (.int 1) = some (rowD t.rows) ∧ gIx (tabD t) (.int 2) = some (rowD t.cols) ∧ gIx (tabD t) (.int 3) = some (qD t.whole) := ⟨rfl, rfl, rfl, rfl⟩
def encR (p : List Qt × List Qt) : PyData := .tuple [rowD p.1, rowD p.2]
theorem zip_encR : ∀ (r s : List (List Qt)), List.zipWith (fun x y => PyData.tuple [x, y]) (r.map rowD) (s.map rowD) = (r.zip s).map encR
  | [], _ => rfl
  | _ :: _, [] => rfl
  | a :: r, b :: s => by
    rw [List.map_cons, List.map_cons, List.zipWith_cons_cons, zip_encR r s]
    rfl
theorem zip_plusR : ∀ (r s : List (List Qt)), (r.zip s).map (fun p => rowD (plusR p.1 p.2)) = (List.zipWith plusR r s).map rowD
  | [], _ => rfl
  | _ :: _, [] => rfl
  | a :: r, b :: s => by
    rw [List.zip_cons_cons, List.map_cons, zip_plusR r s]
    rfl
theorem gNe_sz (a b : Option (Nat × Nat)) : gNe (szD a) (szD b) = some (.bool (!decide (a = b))) := by
  match a, b with
  | none, none => rfl
  | none, some (c, d) => rfl
  | some (c, d), none => rfl
  | some (c, d), some (e, f) =>
    have q : PyData.eqv (.tuple [.int (c : Int), .int (d : Int)]) (.tuple [.int (e : Int), .int (f : Int)]) = decide (some (c, d) = some (e, f)) := by
      rw [PyData.eqv, PyData.eqvAll, PyData.eqvAll, PyData.eqvAll, PyData.eqv, PyData.eqv, Bool.and_true]
      by_cases h1 : c = e
      · by_cases h2 : d = f
        · subst h1 h2; simp
        · have : (d : Int) ≠ f := by omega
          simp [h1, h2, this]
      · have : (c : Int) ≠ e := by omega
        simp [h1, this]
    rw [← q]
    rfl
theorem isN_sz (a : Option (Nat × Nat)) : gIsN (szD a) .none = some (.bool a.isNone) := by
  match a with
  | none => rfl
  | some (c, d) => rfl
theorem added_bad {a b : PyData} (ha : Tz a) (hb : Tz b) (h : sizeB a = none ∨ sizeB a ≠ sizeB b) : Gd (m_added [a, b]) fun q => q = .ex "NoTable" := by
  unfold m_added
  refine m_fnX rfl ?_
  show Gx (b_added [.dat a, .dat b, .no, .no, .no]) _ _ _
  unfold b_added
  refine x_seq ?_
  refine x_if ?_
  refine t_or ?_
  refine t_tst ?_
  refine e_op ?_
  refine e_call ?_
  refine a_cons ?_
  refine e_var (d := a) rfl ?_
  refine a_nil ?_
  refine gd_mono (size_ok ha) fun q hq => ?_
  subst hq
  refine e_c ?_
  refine gd (isN_sz _) ⟨_, rfl, ?_⟩
  cases sa : sizeB a with
  | none => exact .inl ⟨rfl, .inl ⟨rfl, x_raise rfl⟩⟩
  | some x =>
    refine .inr ⟨rfl, ?_⟩
    refine t_tst ?_
    refine e_op ?_
    refine e_call ?_
    refine a_cons ?_
    refine e_var (d := a) rfl ?_
    refine a_nil ?_
    refine gd_mono (size_ok ha) fun q hq => ?_
    subst hq
    refine e_call ?_
    refine a_cons ?_
    refine e_var (d := b) rfl ?_
    refine a_nil ?_
    refine gd_mono (size_ok hb) fun q hq => ?_
    subst hq
    refine gd (gNe_sz _ _) ⟨_, rfl, .inl ⟨?_, x_raise rfl⟩⟩
    rw [decide_eq_false (h.resolve_left (by rw [sa]; exact fun z => by cases z))]
    rfl
theorem added_ok {R C : Nat} {t u : Tb} (o : OkT R C t) (v : OkT R C u) : Gd (m_added [tabD t, tabD u]) fun q => q = .ok (tabD (plusT t u)) := by
  have few := o.few
  obtain ⟨i0, i1, i2, i3⟩ := ixt t
  obtain ⟨j0, j1, j2, j3⟩ := ixt u
  unfold m_added
  refine m_fnX rfl ?_
  show Gx (b_added [.dat (tabD t), .dat (tabD u), .no, .no, .no]) _ _ _
  unfold b_added
  refine x_seq ?_
  refine x_if ?_
  refine t_or ?_
  refine t_tst ?_
  refine e_op ?_
  refine e_call ?_
  refine a_cons ?_
  refine e_var (d := tabD t) rfl ?_
  refine a_nil ?_
  refine gd_mono (size_ok (tz_tab o)) fun q hq => ?_
  subst hq
  refine e_c ?_
  refine gd (isN_sz _) ⟨_, rfl, .inr ⟨by rw [size_tab o]; rfl, ?_⟩⟩
  refine t_tst ?_
  refine e_op ?_
  refine e_call ?_
  refine a_cons ?_
  refine e_var (d := tabD t) rfl ?_
  refine a_nil ?_
  refine gd_mono (size_ok (tz_tab o)) fun q hq => ?_
  subst hq
  refine e_call ?_
  refine a_cons ?_
  refine e_var (d := tabD u) rfl ?_
  refine a_nil ?_
  refine gd_mono (size_ok (tz_tab v)) fun q hq => ?_
  subst hq
  refine gd (gNe_sz _ _) ⟨_, rfl, .inr ⟨by rw [size_tab o, size_tab v, decide_eq_true rfl]; rfl, ?_⟩⟩
  refine x_up ?_
  refine s_nil ?_
  refine x_seq ?_
  refine x_up ?_
  refine s_set ?_
  refine e_b ?_
  refine a_cons ?_
  refine e_l ?_
  refine f_lcT_pure encR (fun _ => true) (fun p => rowD (plusR p.1 p.2)) ?_
  refine f_itZB ?_
  refine e_op ?_
  refine e_var (d := tabD t) rfl ?_
  refine e_c ?_
  refine gd i0 ?_
  refine e_op ?_
  refine e_var (d := tabD u) rfl ?_
  refine e_c ?_
  refine gd j0 ?_
  refine ⟨_, _, _, _, rfl, rfl, t.cells.zip u.cells, zip_encR _ _, rfl, ?_, fun p hp => ?_, ?_⟩
  · rw [List.length_zip, o.len]
    exact Nat.lt_of_le_of_lt (show min R _ ≤ 8 by omega) (by decide)
  · obtain ⟨h1, h2⟩ := mem_zip hp
    refine ⟨[.dat (tabD t), .dat (tabD u), .no, .dat (rowD p.1), .dat (rowD p.2)], rfl, rfl, rfl, t_yes ⟨rfl, rfl⟩, fun _ => ?_⟩
    refine e_call ?_
    refine a_cons ?_
    refine e_var (d := rowD p.1) rfl ?_
    refine a_cons ?_
    refine e_var (d := rowD p.2) rfl ?_
    refine a_nil ?_
    exact gd_mono (row_plus_ok (o.cells _ h1) (v.cells _ h2) (by rw [o.wid _ h1]; omega)) fun q hq => ⟨hq, rfl⟩
  · rw [List.filter_eq_self.mpr (fun _ _ => rfl), zip_plusR]
    refine a_nil ?_
    refine gd (a := .tuple ((List.zipWith plusR t.cells u.cells).map rowD)) rfl ?_
    refine x_up ?_
    refine s_ret ?_
    refine e_tup ?_
    refine a_cons ?_
    refine e_var (d := .tuple ((List.zipWith plusR t.cells u.cells).map rowD)) rfl ?_
    refine a_cons ?_
    refine e_call ?_
    refine a_cons ?_
    refine e_op ?_
    refine e_var (d := tabD t) rfl ?_
    refine e_c ?_
    refine gd i1 ?_
    refine a_cons ?_
    refine e_op ?_
    refine e_var (d := tabD u) rfl ?_
    refine e_c ?_
    refine gd j1 ?_
    refine a_nil ?_
    refine gd_mono (row_plus_ok o.rows v.rows (by rw [o.lr]; omega)) fun q hq => ?_
    subst hq
    refine a_cons ?_
    refine e_call ?_
    refine a_cons ?_
    refine e_op ?_
    refine e_var (d := tabD t) rfl ?_
    refine e_c ?_
    refine gd i2 ?_
    refine a_cons ?_
    refine e_op ?_
    refine e_var (d := tabD u) rfl ?_
    refine e_c ?_
    refine gd j2 ?_
    refine a_nil ?_
    refine gd_mono (row_plus_ok o.cols v.cols (by rw [o.lc]; omega)) fun q hq => ?_
    subst hq
    refine a_cons ?_
    refine e_call ?_
    refine a_cons ?_
    refine e_op ?_
    refine e_var (d := tabD t) rfl ?_
    refine e_c ?_
    refine gd i3 ?_
    refine a_cons ?_
    refine e_op ?_
    refine e_var (d := tabD u) rfl ?_
    refine e_c ?_
    refine gd j3 ?_
    refine a_nil ?_
    refine gd_mono (plus_ok o.whole v.whole) fun q hq => ?_
    subst hq
    refine a_nil ?_
    exact ⟨by show 4 ≤ _; decide, rfl⟩
/-! the law's own -/
theorem due_ok {R C : Nat} {t u : Tb} (o : OkT R C t) (v : OkT R C u) : Gd (m__law_due [tabD t, tabD u]) fun q => q = tabD (plusT t u) := by
  have few := o.few
  obtain ⟨i0, i1, i2, i3⟩ := ixt t
  obtain ⟨j0, j1, j2, j3⟩ := ixt u
  unfold m__law_due
  refine m_fnP rfl ?_
  show Gs (b__law_due [.dat (tabD t), .dat (tabD u), .no, .no, .no, .no, .no, .no, .no]) _ _
  unfold b__law_due
  refine s_seq ?_
  refine s_own ?_
  refine f_lst ?_
  refine a_nil ?_
  refine ⟨by decide, by show 2 < 9; decide, ?_⟩
  refine s_seq ?_
  refine s_for (I := fun left s => ∃ (as : List (List Qt × List Qt)) (done : List PyData) (v3 v4 : SV), left = as.map encR ∧ (∀ p ∈ as, p ∈ t.cells.zip u.cells) ∧ s = [.dat (tabD t), .dat (tabD u), .own done, v3, v4, .no, .no, .no, .no] ∧ done ++ as.map (fun p => rowD (plusR p.1 p.2)) = (t.cells.zip u.cells).map (fun p => rowD (plusR p.1 p.2)) ∧ done.length + as.length ≤ 8) ?_ (fun d left s hI => ?_) (fun s hI => ?_)
  · refine f_itZB ?_
    refine e_op ?_
    refine e_var (d := tabD t) rfl ?_
    refine e_c ?_
    refine gd i0 ?_
    refine e_op ?_
    refine e_var (d := tabD u) rfl ?_
    refine e_c ?_
    refine gd j0 ?_
    refine ⟨_, _, _, _, rfl, rfl, t.cells.zip u.cells, [], _, _, zip_encR _ _, fun p hp => hp, rfl, rfl, ?_⟩
    rw [List.length_zip, o.len, List.length_nil]
    omega
  · obtain ⟨as, done, v3, v4, e, sub, rfl, hd, fd⟩ := hI
    match as, e with
    | p :: as, e =>
      rw [List.map_cons] at e
      injection e with e1 e2
      subst e1 e2
      obtain ⟨h1, h2⟩ := mem_zip (sub p List.mem_cons_self)
      rw [List.length_cons] at fd
      refine ⟨[.dat (tabD t), .dat (tabD u), .own done, .dat (rowD p.1), .dat (rowD p.2), .no, .no, .no, .no], rfl, ?_⟩
      refine s_app (p0 := done) rfl ?_
      refine row_plus law_plus_ok (o.cells _ h1) (v.cells _ h2) (by rw [o.wid _ h1]; omega) (fun h => e_var rfl h) (fun h => e_var rfl h) rfl rfl (by decide) ?_
      refine ⟨done, rfl, Nat.lt_of_le_of_lt (show done.length ≤ 8 by omega) (by decide), as, done ++ [rowD (plusR p.1 p.2)], _, _, rfl, fun x hx => sub x (List.mem_cons_of_mem _ hx), rfl, ?_, ?_⟩
      · rw [List.append_assoc, ← hd, List.map_cons]
        rfl
      · rw [List.length_append, List.length_singleton]; omega
  · obtain ⟨as, done, v3, v4, e, _, rfl, hd, fd⟩ := hI
    match as, e with
    | [], _ =>
    rw [List.map_nil, List.append_nil, zip_plusR] at hd
    subst hd
    refine s_seq ?_
    refine s_set ?_
    refine e_l ?_
    refine f_lc_pure (fun _ => true) (fun d => match d with
      | .int 1 => rowD (plusR t.rows u.rows)
      | _ => rowD (plusR t.cols u.cols)) ?_
    refine f_itA ?_
    refine e_tup ?_
    refine a_cons ?_
    refine e_c ?_
    refine a_cons ?_
    refine e_c ?_
    refine a_nil ?_
    refine ⟨by show 2 ≤ _; decide, .inl ⟨_, .inr rfl, rfl, by show 2 < _; decide, fun d hd => ⟨t_yes ⟨rfl, rfl⟩, fun _ => ?_⟩, ?_⟩⟩
    · simp only [List.mem_cons, List.not_mem_nil, or_false] at hd
      rcases hd with rfl | rfl
      · refine row_plus law_plus_ok o.rows v.rows (by rw [o.lr]; omega) (fun h => ?_) (fun h => ?_) rfl rfl (by decide) ⟨rfl, rfl⟩
        · refine e_op ?_
          refine e_var (d := tabD t) rfl ?_
          refine e_var (d := .int 1) rfl ?_
          exact gd i1 h
        · refine e_op ?_
          refine e_var (d := tabD u) rfl ?_
          refine e_var (d := .int 1) rfl ?_
          exact gd j1 h
      · refine row_plus law_plus_ok o.cols v.cols (by rw [o.lc]; omega) (fun h => ?_) (fun h => ?_) rfl rfl (by decide) ⟨rfl, rfl⟩
        · refine e_op ?_
          refine e_var (d := tabD t) rfl ?_
          refine e_var (d := .int 2) rfl ?_
          exact gd i2 h
        · refine e_op ?_
          refine e_var (d := tabD u) rfl ?_
          refine e_var (d := .int 2) rfl ?_
          exact gd j2 h
    · show _
      refine s_seq ?_
      refine s_frz (ds := (List.zipWith plusR t.cells u.cells).map rowD) rfl ?_
      refine s_ret ?_
      refine e_tup ?_
      refine a_cons ?_
      refine e_b ?_
      refine a_cons ?_
      refine e_var (d := .list ((List.zipWith plusR t.cells u.cells).map rowD)) rfl ?_
      refine a_nil ?_
      refine gd (a := .tuple ((List.zipWith plusR t.cells u.cells).map rowD)) rfl ?_
      refine a_cons ?_
      refine e_op ?_
      refine e_var (d := .list [rowD (plusR t.rows u.rows), rowD (plusR t.cols u.cols)]) rfl ?_
      refine e_c ?_
      refine gd (a := rowD (plusR t.rows u.rows)) rfl ?_
      refine a_cons ?_
      refine e_op ?_
      refine e_var (d := .list [rowD (plusR t.rows u.rows), rowD (plusR t.cols u.cols)]) rfl ?_
      refine e_c ?_
      refine gd (a := rowD (plusR t.cols u.cols)) rfl ?_
      refine a_cons ?_
      refine e_call ?_
      refine a_cons ?_
      refine e_op ?_
      refine e_var (d := tabD t) rfl ?_
      refine e_c ?_
      refine gd i3 ?_
      refine a_cons ?_
      refine e_op ?_
      refine e_var (d := tabD u) rfl ?_
      refine e_c ?_
      refine gd j3 ?_
      refine a_nil ?_
      refine gd_mono (law_plus_ok o.whole v.whole) fun q hq => ?_
      subst hq
      refine a_nil ?_
      exact ⟨by show 4 ≤ _; decide, rfl⟩
theorem word_t : m__law_word [excD "NoTable"] = some (.str "table") := by kernel_rfl
theorem met_bad {a b : PyData} (ha : Tz a) (hb : Tz b) (h : sizeB a = none ∨ sizeB a ≠ sizeB b) : Gd (m__law_met [a, b]) fun q => q = .str "table" := by
  unfold m__law_met
  refine m_fnP rfl ?_
  show Gs (b__law_met [.dat a, .dat b, .no]) _ _
  unfold b__law_met
  refine s_seq ?_
  refine s_tryW ?_
  refine y_drop ?_
  refine a_cons ?_
  refine e_var (d := a) rfl ?_
  refine a_cons ?_
  refine e_var (d := b) rfl ?_
  refine a_nil ?_
  refine gd_mono (added_bad ha hb h) fun r hr => .inr ⟨_, hr, by decide, ?_⟩
  refine s_ret ?_
  refine e_call ?_
  refine a_cons ?_
  refine e_var (d := excD "NoTable") rfl ?_
  refine a_nil ?_
  exact gd word_t rfl
end K62

/-! the things that are no tables -/
namespace K62
open PySem PySem.Spec PyProof.Rows L2 Dl
theorem sl_take {ds : List PyData} {n : Nat} {D : PyData → Prop} (k : D (.tuple (ds.take n))) : Gd (gSl (.tuple ds) none (some (n : Int))) D := by
  have e : Dl.cutD ds none (some (n : Int)) = ds.take n := by
    unfold Dl.cutD
    rw [HT.sIx_none, HT.sIx_nat, List.drop_zero, Nat.sub_zero]
    by_cases h : n ≤ ds.length
    · rw [Nat.min_eq_left h]
    · rw [Nat.min_eq_right (by omega), List.take_of_length_le (Nat.le_refl _), List.take_of_length_le (by omega)]
  exact gd (show some (PyData.tuple (Dl.cutD ds none (some (n : Int)))) = some (.tuple (ds.take n)) by rw [e]) k
theorem sl_drop {ds : List PyData} {n : Nat} {D : PyData → Prop} (k : D (.tuple (ds.drop n))) : Gd (gSl (.tuple ds) (some (n : Int)) none) D := by
  have e : Dl.cutD ds (some (n : Int)) none = ds.drop n := by
    unfold Dl.cutD
    rw [HT.sIx_none, HT.sIx_nat]
    by_cases h : n ≤ ds.length
    · rw [Nat.min_eq_left h]
      exact List.take_of_length_le (by rw [List.length_drop]; exact Nat.le_refl _)
    · rw [Nat.min_eq_right (by omega), List.drop_eq_nil_of_le (Nat.le_refl _), List.drop_eq_nil_of_le (by omega), List.take_nil]
  exact gd (show some (PyData.tuple (Dl.cutD ds (some (n : Int)) none)) = some (.tuple (ds.drop n)) by rw [e]) k

theorem cat_tup {x y : List PyData} {D : PyData → Prop} (few : x.length + y.length ≤ 1000) (k : D (.tuple (x ++ y))) : Gd (gAdd (.tuple x) (.tuple y)) D :=
  gd (show (if x.length + y.length ≤ sizeLine then _ else _) = _ from if_pos (Nat.le_trans few (by decide))) k
theorem f_cat {fa fb : DE} {s : Sl} {QA : List PyData → Sl → Prop} (h : Ge (fa s) fun a s1 => Ge (fb s1) fun b s2 => ∃ xs ys, a = .list xs ∧ b = .list ys ∧ xs.length + ys.length ≤ 1000 ∧ QA (xs ++ ys) s2) : Ge (fCat fa fb s) QA := by
  obtain ⟨a, s1, e1, b, s2, e2, xs, ys, rfl, rfl, l, k⟩ := h
  exact ⟨_, s2, by unfold fCat; rw [e1, Option.bind_some, e2, Option.bind_some]; dsimp only; rw [if_pos (Nat.le_trans l (by decide))], k⟩
def spl (ds : List PyData) (i : Nat) (x : PyData) : List PyData := ds.take i ++ [x] ++ ds.drop (i + 1)
theorem mem_spl {ds : List PyData} {i : Nat} {x d : PyData} (h : d ∈ spl ds i x) : d = x ∨ d ∈ ds := by
  unfold spl at h
  rcases List.mem_append.mp h with h | h
  · rcases List.mem_append.mp h with h | h
    · exact .inr (List.mem_of_mem_take h)
    · exact .inl (List.mem_singleton.mp h)
  · exact .inr (List.mem_of_mem_drop h)
theorem in_spl (ds : List PyData) (i : Nat) (x : PyData) : x ∈ spl ds i x := by
  unfold spl
  exact List.mem_append_left _ (List.mem_append_right _ (List.mem_singleton.mpr rfl))
theorem len_spl (ds : List PyData) (i : Nat) (x : PyData) : (spl ds i x).length ≤ ds.length + 1 := by
  unfold spl
  rw [List.length_append, List.length_append, List.length_take, List.length_drop, List.length_singleton]
  omega
theorem e_bend {fo fx fi : DE} {s : Sl} {ds : List PyData} {x : PyData} {i : Nat} {Q : PyData → Sl → Prop} (ho : ∀ {Q : PyData → Sl → Prop}, Q (.tuple ds) s → Ge (fo s) Q) (hx : ∀ {Q : PyData → Sl → Prop}, Q x s → Ge (fx s) Q) (hi : ∀ {Q : PyData → Sl → Prop}, Q (.int i) s → Ge (fi s) Q) (few : ds.length ≤ 100) (k : Q (.tuple (spl ds i x)) s) :
    Ge (dOp gAdd (dOp gAdd (dSl fo oN (oS fi)) (dTup (aCons fx aNil))) (dSl fo (oS (dOp gAdd fi (dC (.int 1)))) oN) s) Q := by
  refine e_op ?_
  refine e_op ?_
  refine e_sl ?_
  refine ho ?_
  refine o_n ?_
  refine o_s ?_
  refine hi ⟨_, rfl, ?_⟩
  refine sl_take ?_
  refine e_tup ?_
  refine a_cons ?_
  refine hx ?_
  refine a_nil ?_
  refine ⟨by show 1 ≤ _; decide, ?_⟩
  refine cat_tup (by rw [List.length_take, List.length_singleton]; omega) ?_
  refine e_sl ?_
  refine ho ?_
  refine o_s ?_
  refine e_op ?_
  refine hi ?_
  refine e_c ?_
  refine gd (a := .int ((i + 1 : Nat) : Int)) rfl ⟨_, rfl, ?_⟩
  refine o_n ?_
  refine sl_drop ?_
  refine cat_tup (by rw [List.length_append, List.length_take, List.length_drop, List.length_singleton]; omega) k
def Bad (d : PyData) : Prop := Tz d ∧ sizeB d = none
theorem nt_none : Nt .none := ⟨(fun _ h => by cases h), rfl⟩
theorem nt_int (i : Int) : Nt (.int i) := ⟨(fun _ h => by cases h), rfl⟩
theorem nt_list (ds : List PyData) : Nt (.list ds) := ⟨(fun _ h => by cases h), rfl⟩
theorem nt_dict : Nt (.dict []) := ⟨(fun _ h => by cases h), rfl⟩
theorem bad_nt {d : PyData} (h : Nt d) : Bad d := ⟨.inl h, by
  unfold sizeB
  split
  · rename_i c r k w; exact absurd rfl (h.1 _)
  · rfl⟩
theorem bad_len {ds : List PyData} (h : ds.length ≠ 4) : Bad (.tuple ds) := ⟨.inr (.inl ⟨ds, rfl, h⟩), by
  unfold sizeB
  split
  · rename_i c r k w e; cases e; exact absurd rfl h
  · rfl⟩
def Tc (c : PyData) : Prop := Nt c ∨ ∃ cs, c = .tuple cs ∧ cs.length ≤ 100 ∧ ∀ x ∈ cs, Ta x
theorem bad4 {c r k w : PyData} (tr : Ta r) (tk : Ta k) (tw : Th w) (tc : Tc c) (h : areB r = false ∨ areB k = false ∨ fracB w = false ∨ szC c r k = none) : Bad (.tuple [c, r, k, w]) := ⟨.inr (.inr ⟨c, r, k, w, rfl, tr, tk, tw, tc⟩), by
  rw [size4]
  rcases h with h | h | h | h
  · rw [h]; rfl
  · rw [h, Bool.and_false]; rfl
  · rw [h, Bool.and_false]; rfl
  · rw [h]; split <;> rfl⟩
theorem szC_row {cs : List PyData} {r k x : PyData} (m : x ∈ cs) (h : areB x = false ∨ lenT x ≠ lenT k) : szC (.tuple cs) r k = none := by
  show (if (decide (cs.length = lenT r) && cs.all (fun x => areB x && decide (lenT x = lenT k))) = true then _ else _) = _
  rw [if_neg]
  intro e
  rw [Bool.and_eq_true, List.all_eq_true] at e
  have := e.2 x m
  rw [Bool.and_eq_true] at this
  rcases h with h | h
  · rw [h] at this; exact absurd this.1 Bool.false_ne_true
  · exact h (of_decide_eq_true this.2)
theorem szC_len {cs : List PyData} {r k : PyData} (h : cs.length ≠ lenT r) : szC (.tuple cs) r k = none := by
  show (if (decide (cs.length = lenT r) && _) = true then _ else _) = _
  rw [decide_eq_false h, Bool.false_and, if_neg (by simp)]
theorem szC_nt {c r k : PyData} (h : Nt c) : szC c r k = none := by
  unfold szC
  split
  · rename_i cs; exact absurd rfl (h.1 cs)
  · rfl
theorem are_mem {ds : List PyData} {x : PyData} (m : x ∈ ds) (h : fracB x = false) : areB (.tuple ds) = false := by
  rw [are_t]
  cases e : ds.all fracB with
  | false => rw [Bool.and_false]
  | true =>
    rw [List.all_eq_true] at e
    rw [e x m] at h
    cases h
theorem ta_list {ds : List PyData} (few : ds.length ≤ 100) (h : ∀ x ∈ ds, Th x) : Ta (.tuple ds) := .inl ⟨ds, rfl, few, h⟩
theorem th_row {r : List Qt} : Th (rowD r) := by
  match r with
  | [] => exact True.intro
  | [_] => exact True.intro
  | [a, b] => exact ⟨rfl, rfl, fun i e => by cases e⟩
  | _ :: _ :: _ :: _ => exact True.intro
theorem frac_row {r : List Qt} : fracB (rowD r) = false := by
  match r with
  | [] => rfl
  | [_] => rfl
  | [a, b] => rfl
  | _ :: _ :: _ :: _ => rfl
theorem ta_q {f : Qt} : Ta (qD f) := ta_list (Nat.le_of_ble_eq_true rfl) fun x hx => by
  simp only [List.mem_cons, List.not_mem_nil, or_false] at hx
  rcases hx with rfl | rfl
  · rfl
  · rfl
theorem ok_01 : OkQ (0, 1) := ⟨by decide, by decide, by decide, by decide⟩
theorem ok_11 : OkQ (1, 1) := ⟨by decide, by decide, by decide, by decide⟩
/-- the odd parts -/
def Odd (x : PyData) : Prop := Th x ∧ fracB x = false
theorem mem10 {p : PyData → Prop} {a1 a2 a3 a4 a5 a6 a7 a8 a9 a10 : PyData} (h1 : p a1) (h2 : p a2) (h3 : p a3) (h4 : p a4) (h5 : p a5) (h6 : p a6) (h7 : p a7) (h8 : p a8) (h9 : p a9) (h10 : p a10) : ∀ d ∈ [a1, a2, a3, a4, a5, a6, a7, a8, a9, a10], p d := fun d hd => by
  simp only [List.mem_cons, List.not_mem_nil, or_false] at hd
  rcases hd with rfl | rfl | rfl | rfl | rfl | rfl | rfl | rfl | rfl | rfl <;> assumption
theorem odd_all : ∀ d ∈ [PyData.none, .bool true, .tuple [.int 2, .int 4], .tuple [.int 1, .int 0], .tuple [.int 1, .int (-1)], .list [.int 1, .int 1], .tuple [.bool true, .int 1], .int 5, .str "1", .tuple [.int 1, .int 1, .int 1]], Odd d :=
  mem10 ⟨rfl, rfl⟩ ⟨rfl, rfl⟩ ⟨⟨rfl, rfl, fun i e => by cases e; decide⟩, by decide⟩ ⟨⟨rfl, rfl, fun i e => by cases e; decide⟩, by decide⟩ ⟨⟨rfl, rfl, fun i e => by cases e; decide⟩, by decide⟩ ⟨rfl, rfl⟩ ⟨⟨rfl, rfl, fun i e => by cases e; decide⟩, rfl⟩ ⟨rfl, rfl⟩ ⟨rfl, rfl⟩ ⟨True.intro, rfl⟩
section
variable {R C : Nat} {t : Tb} (o : OkT R C t)
include o
theorem tc_cells : Tc (.tuple (t.cells.map rowD)) := .inr ⟨_, rfl, by rw [List.length_map, o.len]; have := o.few; omega, fun x hx => by
  obtain ⟨r, hr, rfl⟩ := List.mem_map.mp hx
  exact ta_row (by rw [o.wid r hr]; have := o.few; omega) (o.cells r hr)⟩
theorem tc_spl {i : Nat} {x : PyData} (h : Ta x) : Tc (.tuple (spl (t.cells.map rowD) i x)) := .inr ⟨_, rfl, Nat.le_trans (len_spl _ _ _) (by rw [List.length_map, o.len]; have := o.few; omega), fun y hy => by
  rcases mem_spl hy with rfl | hy
  · exact h
  · obtain ⟨r, hr, rfl⟩ := List.mem_map.mp hy
    exact ta_row (by rw [o.wid r hr]; have := o.few; omega) (o.cells r hr)⟩
theorem ta_rows : Ta (rowD t.rows) := ta_row (by rw [o.lr]; have := o.few; omega) o.rows
theorem ta_cols : Ta (rowD t.cols) := ta_row (by rw [o.lc]; have := o.few; omega) o.cols
theorem th_qs {r : List Qt} (h : ∀ f ∈ r, OkQ f) : ∀ x ∈ r.map qD, Th x := fun x hx => by
  obtain ⟨f, hf, rfl⟩ := List.mem_map.mp hx
  exact th_q (h f hf)
theorem ta_splQ {r : List Qt} (few : r.length ≤ 8) (h : ∀ f ∈ r, OkQ f) {i : Nat} {x : PyData} (hx : Th x) : Ta (.tuple (spl (r.map qD) i x)) := ta_list (Nat.le_trans (len_spl _ _ _) (by rw [List.length_map]; omega)) fun y hy => by
  rcases mem_spl hy with rfl | hy
  · exact hx
  · exact th_qs o h y hy
theorem bad0 {i j : Nat} {r : List Qt} (hr : r ∈ t.cells) {x : PyData} (hx : Odd x) : Bad (.tuple [.tuple (spl (t.cells.map rowD) i (.tuple (spl (r.map qD) j x))), rowD t.rows, rowD t.cols, qD t.whole]) :=
  bad4 (ta_rows o) (ta_cols o) (th_q o.whole) (tc_spl o (ta_splQ o (by rw [o.wid r hr]; have := o.few; omega) (o.cells r hr) hx.1)) (.inr (.inr (.inr (szC_row (in_spl _ _ _) (.inl (are_mem (in_spl _ _ _) hx.2))))))
theorem bad1 {i : Nat} {x : PyData} (hx : Odd x) : Bad (.tuple [.tuple (t.cells.map rowD), .tuple (spl (t.rows.map qD) i x), rowD t.cols, qD t.whole]) :=
  bad4 (ta_splQ o (by rw [o.lr]; have := o.few; omega) o.rows hx.1) (ta_cols o) (th_q o.whole) (tc_cells o) (.inl (are_mem (in_spl _ _ _) hx.2))
theorem bad2 {i : Nat} {x : PyData} (hx : Odd x) : Bad (.tuple [.tuple (t.cells.map rowD), rowD t.rows, .tuple (spl (t.cols.map qD) i x), qD t.whole]) :=
  bad4 (ta_rows o) (ta_splQ o (by rw [o.lc]; have := o.few; omega) o.cols hx.1) (th_q o.whole) (tc_cells o) (.inr (.inl (are_mem (in_spl _ _ _) hx.2)))
theorem bad3 {x : PyData} (hx : Odd x) : Bad (.tuple [.tuple (t.cells.map rowD), rowD t.rows, rowD t.cols, x]) :=
  bad4 (ta_rows o) (ta_cols o) hx.1 (tc_cells o) (.inr (.inr (.inl hx.2)))
theorem ta_more {r : List Qt} (few : r.length ≤ 8) (h : ∀ f ∈ r, OkQ f) {f : Qt} (hf : OkQ f) : Ta (.tuple (r.map qD ++ [qD f])) := ta_list (by rw [List.length_append, List.length_map, List.length_singleton]; omega) fun y hy => by
  rcases List.mem_append.mp hy with hy | hy
  · exact th_qs o h y hy
  · rw [List.mem_singleton.mp hy]; exact th_q hf
theorem bad_4 : Bad (.tuple [.tuple (t.cells.map rowD), .tuple (t.rows.map qD ++ [qD (0, 1)]), rowD t.cols, qD t.whole]) :=
  bad4 (ta_more o (by rw [o.lr]; have := o.few; omega) o.rows ok_01) (ta_cols o) (th_q o.whole) (tc_cells o) (.inr (.inr (.inr (szC_len (by
    show (t.cells.map rowD).length ≠ (t.rows.map qD ++ [qD (0, 1)]).length
    rw [List.length_append, List.length_map, List.length_map, List.length_singleton, o.len, o.lr]
    omega)))))
theorem first_row : ∃ r, r ∈ t.cells ∧ t.cells.head? = some r := by
  have few := o.few
  have l := o.len
  match h : t.cells with
  | [] => rw [h] at l; simp at l; omega
  | r :: _ => exact ⟨r, List.mem_cons_self, rfl⟩
theorem bad5 : Bad (.tuple [.tuple (t.cells.map rowD), rowD t.rows, .tuple ((t.cols.map qD).drop 1), qD t.whole]) := by
  obtain ⟨r, hr, _⟩ := first_row o
  have few := o.few
  refine bad4 (ta_rows o) (ta_list (by rw [List.length_drop, List.length_map, o.lc]; omega) fun y hy => th_qs o o.cols y (List.mem_of_mem_drop hy)) (th_q o.whole) (tc_cells o) (.inr (.inr (.inr (szC_row (x := rowD r) (List.mem_map_of_mem hr) (.inr ?_)))))
  show _ ≠ ((t.cols.map qD).drop 1).length
  rw [len_row, o.wid r hr, List.length_drop, List.length_map, o.lc]
  omega
theorem bad10 {ls : List PyData} : Bad (.tuple [.list ls, rowD t.rows, rowD t.cols, qD t.whole]) :=
  bad4 (ta_rows o) (ta_cols o) (th_q o.whole) (.inl (nt_list ls)) (.inr (.inr (.inr (szC_nt (nt_list ls)))))
theorem bad11 {r : List Qt} (hr : r ∈ t.cells) : Bad (.tuple [.tuple (t.cells.map rowD ++ [.tuple (r.map qD ++ [qD (1, 1)])]), .tuple (t.rows.map qD ++ [qD (0, 1)]), rowD t.cols, qD t.whole]) := by
  have few := o.few
  have tl := ta_more o (r := r) (by rw [o.wid r hr]; omega) (o.cells r hr) ok_11
  refine bad4 (ta_more o (by rw [o.lr]; omega) o.rows ok_01) (ta_cols o) (th_q o.whole) (.inr ⟨_, rfl, by rw [List.length_append, List.length_map, o.len, List.length_singleton]; omega, fun x hx => ?_⟩) (.inr (.inr (.inr (szC_row (x := .tuple (r.map qD ++ [qD (1, 1)])) (List.mem_append_right _ (List.mem_singleton.mpr rfl)) (.inr ?_)))))
  · rcases List.mem_append.mp hx with hx | hx
    · obtain ⟨r, hr, rfl⟩ := List.mem_map.mp hx
      exact ta_row (by rw [o.wid r hr]; omega) (o.cells r hr)
    · rw [List.mem_singleton.mp hx]; exact tl
  · show (r.map qD ++ [qD (1, 1)]).length ≠ _
    rw [List.length_append, List.length_map, List.length_singleton, o.wid r hr, len_row, o.lc]
    omega
theorem bad14 {i : Nat} {ls : List PyData} : Bad (.tuple [.tuple (spl (t.cells.map rowD) i (.list ls)), rowD t.rows, rowD t.cols, qD t.whole]) :=
  bad4 (ta_rows o) (ta_cols o) (th_q o.whole) (tc_spl o (.inr (nt_list ls))) (.inr (.inr (.inr (szC_row (in_spl _ _ _) (.inl (are_no (nt_list ls)))))))
theorem bad15 : Bad (.tuple (t.cells.map rowD)) := by
  by_cases h : t.cells.length = 4
  · match e : t.cells, h with
    | [a, b, c, d], _ =>
      have few := o.few
      have ok : ∀ r ∈ [a, b, c, d], Ta (rowD r) := fun r hr => ta_row (by rw [o.wid r (e ▸ hr)]; omega) (o.cells r (e ▸ hr))
      refine bad4 (ok b (by simp)) (ok c (by simp)) th_row (.inr ⟨_, rfl, ?_, fun x hx => ?_⟩) (.inr (.inr (.inl frac_row)))
      · rw [List.length_map, o.wid a (by rw [e]; simp)]; omega
      · obtain ⟨f, hf, rfl⟩ := List.mem_map.mp hx
        exact ta_q
  · exact bad_len (by rw [List.length_map]; exact h)
end
end K62

/-! one that is no table, drawn -/
namespace K62
open PySem PySem.Spec PyProof.Rows L2 Dl
theorem ix_at {ds : List PyData} {i : Nat} {d : PyData} (h : ds[i]? = some d) : gIx (.tuple ds) (.int (i : Int)) = some d := by
  have l : i < ds.length := (List.getElem?_eq_some_iff.mp h).1
  show atI ds (i : Int) = some d
  unfold atI ixN
  rw [if_pos (by omega), if_pos (by omega), Option.bind_some]
  exact h
theorem atI_all {ds : List PyData} {r : Int} {D : PyData → Prop} (h0 : 0 ≤ r) (h : r < ds.length) (k : ∀ d ∈ ds, D d) : Gd (atI ds r) D := by
  obtain ⟨d, e, m⟩ := at_ok ds h0 h
  exact gd e (k d m)
theorem at_state {f : DS} {s : Sl} {N : Sl → Prop} {R : PyData → Sl → Prop} (s' : Sl) (e : s = s') (h : Gs (f s') N R) : Gs (f s) N R := by
  rw [e]; exact h
theorem no_table_ok {R C : Nat} {t : Tb} (o : OkT R C t) {n : Nat} {pd : List PyData} (h : Pot n pd) (hn : n < 100000) : Gd (m__law_no_table pd [tabD t, .int R, .int C]) fun q => Bad q.1 ∧ Pot (n + 10) q.2 := by
  have few := o.few
  unfold m__law_no_table
  refine m_fnM rfl ?_
  show Gs (b__law_no_table [.pot 0 pd, .dat (tabD t), .dat (.int R), .dat (.int C), .no, .no, .no, .no, .no, .no, .no, .no, .no, .no, .no]) _ _
  unfold b__law_no_table
  generalize hcs : t.cells.map rowD = cs
  have lcs : cs.length = R := by rw [← hcs, List.length_map, o.len]
  have td : tabD t = .tuple [.tuple cs, rowD t.rows, rowD t.cols, qD t.whole] := by rw [← hcs]; rfl
  rw [td]
  refine s_seq ?_
  refine s_asg ?_
  refine e_var rfl ?_
  refine gd (a := [.pot 0 pd, .dat (.tuple [.tuple cs, rowD t.rows, rowD t.cols, qD t.whole]), .dat (.int R), .dat (.int C), .dat (.tuple cs), .dat (rowD t.rows), .dat (rowD t.cols), .dat (qD t.whole), .no, .no, .no, .no, .no, .no, .no]) rfl ?_
  refine s_seq ?_
  refine s_set ?_
  refine e_op ?_
  refine e_l ?_
  refine f_lst ?_
  refine a_cons ?_
  refine e_c ?_
  refine a_cons ?_
  refine e_c ?_
  refine a_cons ?_
  refine e_tup ?_
  refine a_cons ?_
  refine e_c ?_
  refine a_cons ?_
  refine e_c ?_
  refine a_nil ?_
  refine ⟨by show 2 ≤ _; decide, ?_⟩
  refine a_cons ?_
  refine e_tup ?_
  refine a_cons ?_
  refine e_c ?_
  refine a_cons ?_
  refine e_c ?_
  refine a_nil ?_
  refine ⟨by show 2 ≤ _; decide, ?_⟩
  refine a_cons ?_
  refine e_tup ?_
  refine a_cons ?_
  refine e_c ?_
  refine a_cons ?_
  refine e_un ?_
  refine e_c ?_
  refine gd (a := .int (-1)) rfl ?_
  refine a_nil ?_
  refine ⟨by show 2 ≤ _; decide, ?_⟩
  refine a_cons ?_
  refine e_l ?_
  refine f_lst ?_
  refine a_cons ?_
  refine e_c ?_
  refine a_cons ?_
  refine e_c ?_
  refine a_nil ?_
  refine ⟨by show 2 ≤ _; decide, ?_⟩
  refine a_cons ?_
  refine e_tup ?_
  refine a_cons ?_
  refine e_c ?_
  refine a_cons ?_
  refine e_c ?_
  refine a_nil ?_
  refine ⟨by show 2 ≤ _; decide, ?_⟩
  refine a_cons ?_
  refine e_c ?_
  refine a_cons ?_
  refine e_c ?_
  refine a_cons ?_
  refine e_tup ?_
  refine a_cons ?_
  refine e_c ?_
  refine a_cons ?_
  refine e_c ?_
  refine a_cons ?_
  refine e_c ?_
  refine a_nil ?_
  refine ⟨by show 3 ≤ _; decide, ?_⟩
  refine a_nil ?_
  refine ⟨by show 10 ≤ _; decide, ?_⟩
  refine e_callM (p0 := pd) rfl ?_
  refine a_cons ?_
  refine e_c ?_
  refine a_nil ?_
  refine ⟨pd, rfl, ?_⟩
  refine pot_at h (by omega) (by decide) (by decide) fun r1 p1 a1 b1 hp1 => ?_
  refine ix_list _ a1 (by exact b1) fun x hx => ?_
  have hx := odd_all x hx
  refine at_state [.pot 0 p1, .dat (.tuple [.tuple cs, rowD t.rows, rowD t.cols, qD t.whole]), .dat (.int R), .dat (.int C), .dat (.tuple cs), .dat (rowD t.rows), .dat (rowD t.cols), .dat (qD t.whole), .dat x, .no, .no, .no, .no, .no, .no] (by rfl) ?_
  refine s_seq ?_
  refine s_par ?_
  refine e_callM (p0 := p1) rfl ?_
  refine a_cons ?_
  refine e_var (d := .int R) rfl ?_
  refine a_nil ?_
  refine ⟨p1, rfl, ?_⟩
  refine pot_at hp1 (by omega) (by omega) (by omega) fun r2 p2 a2 b2 hp2 => ?_
  refine e_callM (p0 := p2) rfl ?_
  refine a_cons ?_
  refine e_var (d := .int C) rfl ?_
  refine a_nil ?_
  refine ⟨p2, rfl, ?_⟩
  refine pot_at hp2 (by omega) (by omega) (by omega) fun r3 p3 a3 b3 hp3 => ?_
  obtain ⟨i, rfl⟩ : ∃ i : Nat, r2 = (i : Int) := ⟨r2.toNat, (Int.toNat_of_nonneg a2).symm⟩
  obtain ⟨j, rfl⟩ : ∃ j : Nat, r3 = (j : Int) := ⟨r3.toNat, (Int.toNat_of_nonneg a3).symm⟩
  obtain ⟨r, hr, er⟩ : ∃ r, r ∈ t.cells ∧ cs[i]? = some (rowD r) := by
    have l : i < t.cells.length := by rw [o.len]; omega
    exact ⟨t.cells[i], List.getElem_mem l, by rw [← hcs, List.getElem?_map, List.getElem?_eq_getElem l]; rfl⟩
  have wr := o.wid r hr
  refine at_state [.pot 0 p3, .dat (.tuple [.tuple cs, rowD t.rows, rowD t.cols, qD t.whole]), .dat (.int R), .dat (.int C), .dat (.tuple cs), .dat (rowD t.rows), .dat (rowD t.cols), .dat (qD t.whole), .dat x, .dat (.int i), .dat (.int j), .no, .no, .no, .no] (by rfl) ?_
  refine s_seq ?_
  refine s_set ?_
  refine e_bend (ds := r.map qD) (x := x) (i := j) (fun k => ?_) (fun k => ?_) (fun k => ?_) (by rw [List.length_map]; omega) ?_
  · refine e_op ?_
    refine e_var (d := .tuple cs) rfl ?_
    refine e_var (d := .int i) rfl ?_
    exact gd (ix_at er) k
  · exact e_var rfl k
  · exact e_var rfl k
  refine at_state [.pot 0 p3, .dat (.tuple [.tuple cs, rowD t.rows, rowD t.cols, qD t.whole]), .dat (.int R), .dat (.int C), .dat (.tuple cs), .dat (rowD t.rows), .dat (rowD t.cols), .dat (qD t.whole), .dat x, .dat (.int i), .dat (.int j), .dat (.tuple (spl (r.map qD) j x)), .no, .no, .no] (by rfl) ?_
  refine s_seq ?_
  refine s_set ?_
  refine e_bend (ds := cs) (x := .tuple (spl (r.map qD) j x)) (i := i) (fun k => e_var rfl k) (fun k => e_var rfl k) (fun k => e_var rfl k) (by omega) ?_
  refine at_state [.pot 0 p3, .dat (.tuple [.tuple cs, rowD t.rows, rowD t.cols, qD t.whole]), .dat (.int R), .dat (.int C), .dat (.tuple cs), .dat (rowD t.rows), .dat (rowD t.cols), .dat (qD t.whole), .dat x, .dat (.int i), .dat (.int j), .dat (.tuple (spl (r.map qD) j x)), .dat (.tuple (spl cs i (.tuple (spl (r.map qD) j x)))), .no, .no] (by rfl) ?_
  refine s_seq ?_
  refine s_own ?_
  refine f_lst ?_
  refine a_cons ?_
  refine e_tup ?_
  refine a_cons ?_
  refine e_var (d := .tuple (spl cs i (.tuple (spl (r.map qD) j x)))) rfl ?_
  refine a_cons ?_
  refine e_var (d := rowD t.rows) rfl ?_
  refine a_cons ?_
  refine e_var (d := rowD t.cols) rfl ?_
  refine a_cons ?_
  refine e_var (d := qD t.whole) rfl ?_
  refine a_nil ?_
  refine ⟨by show 4 ≤ _; decide, ?_⟩
  refine a_nil ?_
  refine ⟨by show 1 ≤ _; decide, by show 13 < 15; decide, ?_⟩
  refine at_state [.pot 0 p3, .dat (.tuple [.tuple cs, rowD t.rows, rowD t.cols, qD t.whole]), .dat (.int R), .dat (.int C), .dat (.tuple cs), .dat (rowD t.rows), .dat (rowD t.cols), .dat (qD t.whole), .dat x, .dat (.int i), .dat (.int j), .dat (.tuple (spl (r.map qD) j x)), .dat (.tuple (spl cs i (.tuple (spl (r.map qD) j x)))), .own [.tuple [.tuple (spl cs i (.tuple (spl (r.map qD) j x))), rowD t.rows, rowD t.cols, qD t.whole]], .no] (by rfl) ?_
  have g0 : Bad (.tuple [.tuple (spl cs i (.tuple (spl (r.map qD) j x))), rowD t.rows, rowD t.cols, qD t.whole]) := hcs ▸ bad0 o hr hx
  generalize PyData.tuple [.tuple (spl cs i (.tuple (spl (r.map qD) j x))), rowD t.rows, rowD t.cols, qD t.whole] = d0 at g0 ⊢
  -- what stands: the table's parts, the odd one, the places
  generalize PyData.tuple (spl cs i (.tuple (spl (r.map qD) j x))) = v12
  generalize PyData.tuple (spl (r.map qD) j x) = v11
  refine s_seq ?_
  refine s_app (p0 := [d0]) rfl ?_
  refine e_tup ?_
  refine a_cons ?_
  refine e_var (d := .tuple cs) rfl ?_
  refine a_cons ?_
  refine e_bend (ds := t.rows.map qD) (x := x) (i := i) (fun k => e_var rfl k) (fun k => e_var rfl k) (fun k => e_var rfl k) (by rw [List.length_map, o.lr]; omega) ?_
  refine a_cons ?_
  refine e_var (d := rowD t.cols) rfl ?_
  refine a_cons ?_
  refine e_var (d := qD t.whole) rfl ?_
  refine a_nil ?_
  refine ⟨by show 4 ≤ _; decide, [d0], rfl, by show 1 < _; decide, ?_⟩
  have g1 : Bad (.tuple [.tuple cs, .tuple (spl (t.rows.map qD) i x), rowD t.cols, qD t.whole]) := hcs ▸ bad1 o hx
  generalize PyData.tuple [.tuple cs, .tuple (spl (t.rows.map qD) i x), rowD t.cols, qD t.whole] = d1 at g1 ⊢
  refine at_state [.pot 0 p3, .dat (.tuple [.tuple cs, rowD t.rows, rowD t.cols, qD t.whole]), .dat (.int R), .dat (.int C), .dat (.tuple cs), .dat (rowD t.rows), .dat (rowD t.cols), .dat (qD t.whole), .dat x, .dat (.int i), .dat (.int j), .dat v11, .dat v12, .own [d0, d1], .no] (by rfl) ?_
  refine s_seq ?_
  refine s_app (p0 := [d0, d1]) rfl ?_
  refine e_tup ?_
  refine a_cons ?_
  refine e_var (d := .tuple cs) rfl ?_
  refine a_cons ?_
  refine e_var (d := rowD t.rows) rfl ?_
  refine a_cons ?_
  refine e_bend (ds := t.cols.map qD) (x := x) (i := j) (fun k => e_var rfl k) (fun k => e_var rfl k) (fun k => e_var rfl k) (by rw [List.length_map, o.lc]; omega) ?_
  refine a_cons ?_
  refine e_var (d := qD t.whole) rfl ?_
  refine a_nil ?_
  refine ⟨by show 4 ≤ _; decide, [d0, d1], rfl, by show 2 < _; decide, ?_⟩
  have g2 : Bad (.tuple [.tuple cs, rowD t.rows, .tuple (spl (t.cols.map qD) j x), qD t.whole]) := hcs ▸ bad2 o hx
  generalize PyData.tuple [.tuple cs, rowD t.rows, .tuple (spl (t.cols.map qD) j x), qD t.whole] = d2 at g2 ⊢
  refine at_state [.pot 0 p3, .dat (.tuple [.tuple cs, rowD t.rows, rowD t.cols, qD t.whole]), .dat (.int R), .dat (.int C), .dat (.tuple cs), .dat (rowD t.rows), .dat (rowD t.cols), .dat (qD t.whole), .dat x, .dat (.int i), .dat (.int j), .dat v11, .dat v12, .own [d0, d1, d2], .no] (by rfl) ?_
  refine s_seq ?_
  refine s_app (p0 := [d0, d1, d2]) rfl ?_
  refine e_tup ?_
  refine a_cons ?_
  refine e_var (d := .tuple cs) rfl ?_
  refine a_cons ?_
  refine e_var (d := rowD t.rows) rfl ?_
  refine a_cons ?_
  refine e_var (d := rowD t.cols) rfl ?_
  refine a_cons ?_
  refine e_var (d := x) rfl ?_
  refine a_nil ?_
  refine ⟨by show 4 ≤ _; decide, [d0, d1, d2], rfl, by show 3 < _; decide, ?_⟩
  have g3 : Bad (.tuple [.tuple cs, rowD t.rows, rowD t.cols, x]) := hcs ▸ bad3 o hx
  generalize PyData.tuple [.tuple cs, rowD t.rows, rowD t.cols, x] = d3 at g3 ⊢
  refine at_state [.pot 0 p3, .dat (.tuple [.tuple cs, rowD t.rows, rowD t.cols, qD t.whole]), .dat (.int R), .dat (.int C), .dat (.tuple cs), .dat (rowD t.rows), .dat (rowD t.cols), .dat (qD t.whole), .dat x, .dat (.int i), .dat (.int j), .dat v11, .dat v12, .own [d0, d1, d2, d3], .no] (by rfl) ?_
  refine s_seq ?_
  refine s_frz (ds := [d0, d1, d2, d3]) rfl ?_
  refine at_state [.pot 0 p3, .dat (.tuple [.tuple cs, rowD t.rows, rowD t.cols, qD t.whole]), .dat (.int R), .dat (.int C), .dat (.tuple cs), .dat (rowD t.rows), .dat (rowD t.cols), .dat (qD t.whole), .dat x, .dat (.int i), .dat (.int j), .dat v11, .dat v12, .dat (.list [d0, d1, d2, d3]), .no] (by rfl) ?_
  refine s_seq ?_
  refine s_own ?_
  refine f_cat ?_
  refine e_var (d := .list [d0, d1, d2, d3]) rfl ?_
  refine e_l ?_
  refine f_lst ?_
  refine a_cons ?_
  refine e_tup ?_
  refine a_cons ?_
  refine e_var (d := .tuple cs) rfl ?_
  refine a_cons ?_
  refine e_op ?_
  refine e_var (d := rowD t.rows) rfl ?_
  refine e_tup ?_
  refine a_cons ?_
  refine e_tup ?_
  refine a_cons ?_
  refine e_c ?_
  refine a_cons ?_
  refine e_c ?_
  refine a_nil ?_
  refine ⟨by show 2 ≤ _; decide, ?_⟩
  refine a_nil ?_
  refine ⟨by show 1 ≤ _; decide, ?_⟩
  refine cat_tup (by rw [List.length_map, List.length_singleton, o.lr]; omega) ?_
  refine a_cons ?_
  refine e_var (d := rowD t.cols) rfl ?_
  refine a_cons ?_
  refine e_var (d := qD t.whole) rfl ?_
  refine a_nil ?_
  refine ⟨by show 4 ≤ _; decide, ?_⟩
  refine a_cons ?_
  refine e_tup ?_
  refine a_cons ?_
  refine e_var (d := .tuple cs) rfl ?_
  refine a_cons ?_
  refine e_var (d := rowD t.rows) rfl ?_
  refine a_cons ?_
  refine e_sl ?_
  refine e_var (d := rowD t.cols) rfl ?_
  refine o_s ?_
  refine e_c ⟨_, rfl, ?_⟩
  refine o_n ?_
  refine sl_drop (n := 1) ?_
  refine a_cons ?_
  refine e_var (d := qD t.whole) rfl ?_
  refine a_nil ?_
  refine ⟨by show 4 ≤ _; decide, ?_⟩
  refine a_cons ?_
  refine e_c ?_
  refine a_cons ?_
  refine e_tup ?_
  refine a_nil ?_
  refine ⟨by show 0 ≤ _; decide, ?_⟩
  refine a_cons ?_
  refine e_c ?_
  refine a_nil ?_
  refine ⟨by show 5 ≤ _; decide, [d0, d1, d2, d3], _, rfl, rfl, by show 4 + 5 ≤ 1000; decide, by show 13 < 15; decide, ?_⟩
  have g4 : Bad (.tuple [.tuple cs, .tuple (t.rows.map qD ++ [.tuple [.int 0, .int 1]]), rowD t.cols, qD t.whole]) := hcs ▸ bad_4 o
  generalize PyData.tuple [.tuple cs, .tuple (t.rows.map qD ++ [.tuple [.int 0, .int 1]]), rowD t.cols, qD t.whole] = d4 at g4 ⊢
  have g5 : Bad (.tuple [.tuple cs, rowD t.rows, .tuple ((t.cols.map qD).drop 1), qD t.whole]) := hcs ▸ bad5 o
  generalize PyData.tuple [.tuple cs, rowD t.rows, .tuple ((t.cols.map qD).drop 1), qD t.whole] = d5 at g5 ⊢
  refine at_state [.pot 0 p3, .dat (.tuple [.tuple cs, rowD t.rows, rowD t.cols, qD t.whole]), .dat (.int R), .dat (.int C), .dat (.tuple cs), .dat (rowD t.rows), .dat (rowD t.cols), .dat (qD t.whole), .dat x, .dat (.int i), .dat (.int j), .dat v11, .dat v12, .own [d0, d1, d2, d3, d4, d5, .none, .tuple [], .dict []], .no] (by rfl) ?_
  refine s_seq ?_
  refine s_frz (ds := [d0, d1, d2, d3, d4, d5, .none, .tuple [], .dict []]) rfl ?_
  refine at_state [.pot 0 p3, .dat (.tuple [.tuple cs, rowD t.rows, rowD t.cols, qD t.whole]), .dat (.int R), .dat (.int C), .dat (.tuple cs), .dat (rowD t.rows), .dat (rowD t.cols), .dat (qD t.whole), .dat x, .dat (.int i), .dat (.int j), .dat v11, .dat v12, .dat (.list [d0, d1, d2, d3, d4, d5, .none, .tuple [], .dict []]), .no] (by rfl) ?_
  refine s_seq ?_
  refine s_own ?_
  refine f_cat ?_
  refine e_var (d := .list [d0, d1, d2, d3, d4, d5, .none, .tuple [], .dict []]) rfl ?_
  refine e_l ?_
  refine f_lst ?_
  refine a_cons ?_
  refine e_b ?_
  refine a_cons ?_
  refine e_var (d := .tuple [.tuple cs, rowD t.rows, rowD t.cols, qD t.whole]) rfl ?_
  refine a_nil ?_
  refine gd (a := .list [.tuple cs, rowD t.rows, rowD t.cols, qD t.whole]) rfl ?_
  refine a_cons ?_
  refine e_op ?_
  refine e_tup ?_
  refine a_cons ?_
  refine e_b ?_
  refine a_cons ?_
  refine e_var (d := .tuple cs) rfl ?_
  refine a_nil ?_
  refine gd (a := .list cs) rfl ?_
  refine a_nil ?_
  refine ⟨by show 1 ≤ _; decide, ?_⟩
  refine e_sl ?_
  refine e_var (d := .tuple [.tuple cs, rowD t.rows, rowD t.cols, qD t.whole]) rfl ?_
  refine o_s ?_
  refine e_c ⟨_, rfl, ?_⟩
  refine o_n ?_
  refine sl_drop (n := 1) ?_
  refine cat_tup (by show 1 + 3 ≤ 1000; decide) ?_
  refine a_nil ?_
  refine ⟨by show 2 ≤ _; decide, [d0, d1, d2, d3, d4, d5, .none, .tuple [], .dict []], _, rfl, rfl, by show 9 + 2 ≤ 1000; decide, by show 13 < 15; decide, ?_⟩
  have g10 : Bad (.tuple [.list cs, rowD t.rows, rowD t.cols, qD t.whole]) := bad10 o
  have g9 : Bad (.list [.tuple cs, rowD t.rows, rowD t.cols, qD t.whole]) := bad_nt (nt_list _)
  have e10 : PyData.tuple ([PyData.list cs] ++ [PyData.tuple cs, rowD t.rows, rowD t.cols, qD t.whole].drop 1) = .tuple [.list cs, rowD t.rows, rowD t.cols, qD t.whole] := rfl
  rw [e10]
  generalize PyData.tuple [.list cs, rowD t.rows, rowD t.cols, qD t.whole] = d10 at g10 ⊢
  generalize PyData.list [.tuple cs, rowD t.rows, rowD t.cols, qD t.whole] = d9 at g9 ⊢
  obtain ⟨r0, hr0, _⟩ := first_row o
  obtain ⟨r0, hr0, er0⟩ : ∃ r, r ∈ t.cells ∧ cs[0]? = some (rowD r) := by
    have l : 0 < t.cells.length := by rw [o.len]; omega
    exact ⟨t.cells[0], List.getElem_mem l, by rw [← hcs, List.getElem?_map, List.getElem?_eq_getElem l]; rfl⟩
  refine at_state [.pot 0 p3, .dat (.tuple [.tuple cs, rowD t.rows, rowD t.cols, qD t.whole]), .dat (.int R), .dat (.int C), .dat (.tuple cs), .dat (rowD t.rows), .dat (rowD t.cols), .dat (qD t.whole), .dat x, .dat (.int i), .dat (.int j), .dat v11, .dat v12, .own [d0, d1, d2, d3, d4, d5, .none, .tuple [], .dict [], d9, d10], .no] (by rfl) ?_
  refine s_seq ?_
  refine s_set ?_
  refine e_op ?_
  refine e_op ?_
  refine e_var (d := .tuple cs) rfl ?_
  refine e_c ?_
  refine gd (ix_at (i := 0) er0) ?_
  refine e_tup ?_
  refine a_cons ?_
  refine e_tup ?_
  refine a_cons ?_
  refine e_c ?_
  refine a_cons ?_
  refine e_c ?_
  refine a_nil ?_
  refine ⟨by show 2 ≤ _; decide, ?_⟩
  refine a_nil ?_
  refine ⟨by show 1 ≤ _; decide, ?_⟩
  refine cat_tup (by rw [List.length_map, List.length_singleton, o.wid r0 hr0]; omega) ?_
  refine at_state [.pot 0 p3, .dat (.tuple [.tuple cs, rowD t.rows, rowD t.cols, qD t.whole]), .dat (.int R), .dat (.int C), .dat (.tuple cs), .dat (rowD t.rows), .dat (rowD t.cols), .dat (qD t.whole), .dat x, .dat (.int i), .dat (.int j), .dat v11, .dat v12, .own [d0, d1, d2, d3, d4, d5, .none, .tuple [], .dict [], d9, d10], .dat (.tuple (r0.map qD ++ [.tuple [.int 1, .int 1]]))] (by rfl) ?_
  refine s_seq ?_
  refine s_frz (ds := [d0, d1, d2, d3, d4, d5, .none, .tuple [], .dict [], d9, d10]) rfl ?_
  refine at_state [.pot 0 p3, .dat (.tuple [.tuple cs, rowD t.rows, rowD t.cols, qD t.whole]), .dat (.int R), .dat (.int C), .dat (.tuple cs), .dat (rowD t.rows), .dat (rowD t.cols), .dat (qD t.whole), .dat x, .dat (.int i), .dat (.int j), .dat v11, .dat v12, .dat (.list [d0, d1, d2, d3, d4, d5, .none, .tuple [], .dict [], d9, d10]), .dat (.tuple (r0.map qD ++ [.tuple [.int 1, .int 1]]))] (by rfl) ?_
  refine s_seq ?_
  refine s_own ?_
  refine f_cat ?_
  refine e_var (d := .list [d0, d1, d2, d3, d4, d5, .none, .tuple [], .dict [], d9, d10]) rfl ?_
  refine e_l ?_
  refine f_lst ?_
  refine a_cons ?_
  refine e_tup ?_
  refine a_cons ?_
  refine e_op ?_
  refine e_var (d := .tuple cs) rfl ?_
  refine e_tup ?_
  refine a_cons ?_
  refine e_var (d := .tuple (r0.map qD ++ [.tuple [.int 1, .int 1]])) rfl ?_
  refine a_nil ?_
  refine ⟨by show 1 ≤ _; decide, ?_⟩
  refine cat_tup (by rw [List.length_singleton]; omega) ?_
  refine a_cons ?_
  refine e_op ?_
  refine e_var (d := rowD t.rows) rfl ?_
  refine e_tup ?_
  refine a_cons ?_
  refine e_tup ?_
  refine a_cons ?_
  refine e_c ?_
  refine a_cons ?_
  refine e_c ?_
  refine a_nil ?_
  refine ⟨by show 2 ≤ _; decide, ?_⟩
  refine a_nil ?_
  refine ⟨by show 1 ≤ _; decide, ?_⟩
  refine cat_tup (by rw [List.length_map, List.length_singleton, o.lr]; omega) ?_
  refine a_cons ?_
  refine e_var (d := rowD t.cols) rfl ?_
  refine a_cons ?_
  refine e_var (d := qD t.whole) rfl ?_
  refine a_nil ?_
  refine ⟨by show 4 ≤ _; decide, ?_⟩
  refine a_cons ?_
  refine e_sl ?_
  refine e_var (d := .tuple [.tuple cs, rowD t.rows, rowD t.cols, qD t.whole]) rfl ?_
  refine o_n ?_
  refine o_s ?_
  refine e_c ⟨_, rfl, ?_⟩
  refine sl_take (n := 3) ?_
  refine a_cons ?_
  refine e_op ?_
  refine e_var (d := .tuple [.tuple cs, rowD t.rows, rowD t.cols, qD t.whole]) rfl ?_
  refine e_tup ?_
  refine a_cons ?_
  refine e_c ?_
  refine a_nil ?_
  refine ⟨by show 1 ≤ _; decide, ?_⟩
  refine cat_tup (by show 4 + 1 ≤ 1000; decide) ?_
  refine a_nil ?_
  refine ⟨by show 3 ≤ _; decide, [d0, d1, d2, d3, d4, d5, .none, .tuple [], .dict [], d9, d10], _, rfl, rfl, by show 11 + 3 ≤ 1000; decide, by show 13 < 15; decide, ?_⟩
  have g11 : Bad (.tuple [.tuple (cs ++ [.tuple (r0.map qD ++ [.tuple [.int 1, .int 1]])]), .tuple (t.rows.map qD ++ [.tuple [.int 0, .int 1]]), rowD t.cols, qD t.whole]) := hcs ▸ bad11 o hr0
  generalize PyData.tuple [.tuple (cs ++ [.tuple (r0.map qD ++ [.tuple [.int 1, .int 1]])]), .tuple (t.rows.map qD ++ [.tuple [.int 0, .int 1]]), rowD t.cols, qD t.whole] = d11 at g11 ⊢
  have g12 : Bad (.tuple ([.tuple cs, rowD t.rows, rowD t.cols, qD t.whole].take 3)) := bad_len (by show 3 ≠ 4; decide)
  generalize PyData.tuple ([.tuple cs, rowD t.rows, rowD t.cols, qD t.whole].take 3) = d12 at g12 ⊢
  have g13 : Bad (.tuple ([.tuple cs, rowD t.rows, rowD t.cols, qD t.whole] ++ [.int 0])) := bad_len (by show 5 ≠ 4; decide)
  generalize PyData.tuple ([.tuple cs, rowD t.rows, rowD t.cols, qD t.whole] ++ [.int 0]) = d13 at g13 ⊢
  refine at_state [.pot 0 p3, .dat (.tuple [.tuple cs, rowD t.rows, rowD t.cols, qD t.whole]), .dat (.int R), .dat (.int C), .dat (.tuple cs), .dat (rowD t.rows), .dat (rowD t.cols), .dat (qD t.whole), .dat x, .dat (.int i), .dat (.int j), .dat v11, .dat v12, .own [d0, d1, d2, d3, d4, d5, .none, .tuple [], .dict [], d9, d10, d11, d12, d13], .dat (.tuple (r0.map qD ++ [.tuple [.int 1, .int 1]]))] (by rfl) ?_
  refine s_seq ?_
  refine s_frz (ds := [d0, d1, d2, d3, d4, d5, .none, .tuple [], .dict [], d9, d10, d11, d12, d13]) rfl ?_
  refine at_state [.pot 0 p3, .dat (.tuple [.tuple cs, rowD t.rows, rowD t.cols, qD t.whole]), .dat (.int R), .dat (.int C), .dat (.tuple cs), .dat (rowD t.rows), .dat (rowD t.cols), .dat (qD t.whole), .dat x, .dat (.int i), .dat (.int j), .dat v11, .dat v12, .dat (.list [d0, d1, d2, d3, d4, d5, .none, .tuple [], .dict [], d9, d10, d11, d12, d13]), .dat (.tuple (r0.map qD ++ [.tuple [.int 1, .int 1]]))] (by rfl) ?_
  refine s_seq ?_
  refine s_own ?_
  refine f_cat ?_
  refine e_var (d := .list [d0, d1, d2, d3, d4, d5, .none, .tuple [], .dict [], d9, d10, d11, d12, d13]) rfl ?_
  refine e_l ?_
  refine f_lst ?_
  refine a_cons ?_
  refine e_tup ?_
  refine a_cons ?_
  refine e_bend (ds := cs) (x := .list (r.map qD)) (i := i) (fun k => e_var rfl k) (fun k => ?_) (fun k => e_var rfl k) (by omega) ?_
  · refine e_b ?_
    refine a_cons ?_
    refine e_op ?_
    refine e_var (d := .tuple cs) rfl ?_
    refine e_var (d := .int i) rfl ?_
    refine gd (ix_at er) ?_
    refine a_nil ?_
    exact gd rfl k
  refine a_cons ?_
  refine e_var (d := rowD t.rows) rfl ?_
  refine a_cons ?_
  refine e_var (d := rowD t.cols) rfl ?_
  refine a_cons ?_
  refine e_var (d := qD t.whole) rfl ?_
  refine a_nil ?_
  refine ⟨by show 4 ≤ _; decide, ?_⟩
  refine a_cons ?_
  refine e_var (d := .tuple cs) rfl ?_
  refine a_cons ?_
  refine e_c ?_
  refine a_nil ?_
  refine ⟨by show 3 ≤ _; decide, [d0, d1, d2, d3, d4, d5, .none, .tuple [], .dict [], d9, d10, d11, d12, d13], _, rfl, rfl, by show 14 + 3 ≤ 1000; decide, by show 13 < 15; decide, ?_⟩
  have g14 : Bad (.tuple [.tuple (spl cs i (.list (r.map qD))), rowD t.rows, rowD t.cols, qD t.whole]) := hcs ▸ bad14 o
  generalize PyData.tuple [.tuple (spl cs i (.list (r.map qD))), rowD t.rows, rowD t.cols, qD t.whole] = d14 at g14 ⊢
  have g15 : Bad (.tuple cs) := hcs ▸ bad15 o
  have all : ∀ d ∈ [d0, d1, d2, d3, d4, d5, .none, .tuple [], .dict [], d9, d10, d11, d12, d13, d14, .tuple cs, .int 5], Bad d := fun d hd => by
    simp only [List.mem_cons, List.not_mem_nil, or_false] at hd
    rcases hd with rfl | rfl | rfl | rfl | rfl | rfl | rfl | rfl | rfl | rfl | rfl | rfl | rfl | rfl | rfl | rfl | rfl
    all_goals first | assumption | exact bad_nt nt_none | exact bad_nt nt_dict | exact bad_nt (nt_int _) | exact bad_len (by decide)
  refine at_state [.pot 0 p3, .dat (.tuple [.tuple cs, rowD t.rows, rowD t.cols, qD t.whole]), .dat (.int R), .dat (.int C), .dat (.tuple cs), .dat (rowD t.rows), .dat (rowD t.cols), .dat (qD t.whole), .dat x, .dat (.int i), .dat (.int j), .dat v11, .dat v12, .own [d0, d1, d2, d3, d4, d5, .none, .tuple [], .dict [], d9, d10, d11, d12, d13, d14, .tuple cs, .int 5], .dat (.tuple (r0.map qD ++ [.tuple [.int 1, .int 1]]))] (by rfl) ?_
  refine s_ret ?_
  refine e_ixc (p0 := [d0, d1, d2, d3, d4, d5, .none, .tuple [], .dict [], d9, d10, d11, d12, d13, d14, .tuple cs, .int 5]) rfl ?_
  refine e_callM (p0 := p3) rfl ?_
  refine a_cons ?_
  refine e_c ?_
  refine a_nil ?_
  refine ⟨p3, rfl, ?_⟩
  refine pot_at hp3 (by omega) (by decide) (by decide) fun r4 p4 a4 b4 hp4 => ?_
  refine ⟨r4, [d0, d1, d2, d3, d4, d5, .none, .tuple [], .dict [], d9, d10, d11, d12, d13, d14, .tuple cs, .int 5], rfl, rfl, ?_⟩
  refine atI_all a4 (by exact b4) fun d hd => ?_
  exact ⟨p4, rfl, all d hd, hp4.mono (by omega)⟩
end K62

/-! the law, whole -/
namespace K62
open PySem PySem.Spec PyProof.Rows L2 Dl
def script (ns : List Int) : PyData := .dict [(.none, .list (ns.map .int))]
theorem ne_text (x : Str) : gNe (.str x) (.str x) = some (.bool false) := by
  have e : PyData.eqv (.str x) (.str x) = (x == x) := rfl
  unfold gNe
  rw [if_pos ⟨rfl, rfl⟩, e, beq_self_eq_true]
  rfl
def Pl (v : SV) : Prop := ∀ i z, v ≠ .tab i z
theorem pl_dat (d : PyData) : Pl (.dat d) := fun _ _ h => by cases h
theorem pl_no : Pl .no := fun _ _ h => by cases h
theorem pl_own (d : List PyData) : Pl (.own d) := fun _ _ h => by cases h
theorem ok_tab {s : Sl} {q : Str} (h : ∀ v ∈ s, Pl v) : okTab (s ++ [.tab 0 q]) 0 q = true := by
  unfold okTab
  rw [Bool.and_eq_true]
  constructor
  · rw [List.any_append, Bool.or_eq_true]
    exact .inr (by simp)
  · rw [List.all_append, Bool.and_eq_true]
    refine ⟨List.all_eq_true.mpr fun v hv => ?_, by simp⟩
    have := h v hv
    cases v with
    | tab i z => exact absurd rfl (this i z)
    | _ => rfl
theorem e_callMT {m : List PyData → List PyData → Option (PyData × List PyData)} {j i : Nat} {q : Str} {g : DA} {s : Sl} {Q : PyData → Sl → Prop} {p0 : List PyData} (c : contents s i = some p0) (h : Ge (g s) fun ds s1 => ∃ pd, contents s1 i = some pd ∧ okTab s1 j q = true ∧ Gd (m pd ds) fun r => Q r.1 (setC s1 i r.2)) : Ge (dCallMT j q m i g s) Q := by
  obtain ⟨ds, s1, e, pd, e2, ok, r, e3, k⟩ := h
  exact ⟨_, _, by unfold dCallMT; rw [c, Option.bind_some, e, Option.bind_some, e2, Option.bind_some, if_pos ok, e3]; rfl, k⟩
theorem rng0 (n : Nat) : rng 0 (n : Int) = (List.range n).map fun (k : Nat) => .int (k : Int) := by
  unfold Dl.rng
  simp
theorem ne3 : gNe (.list [.str "table", .str "table", .str "table"]) (.list [.str "table", .str "table", .str "table"]) = some (.bool false) := by kernel_rfl
theorem ne4 : gNe (.list [.str "table", .str "table", .str "table", .str "table"]) (.list [.str "table", .str "table", .str "table", .str "table"]) = some (.bool false) := by kernel_rfl
theorem mul3 : gMulB (.list [.str "table"]) (.int 3) = some (.list [.str "table", .str "table", .str "table"]) := by kernel_rfl
theorem mul4 : gMulB (.list [.str "table"]) (.int 4) = some (.list [.str "table", .str "table", .str "table", .str "table"]) := by kernel_rfl
theorem pls {a b c d e f g h i j : SV} {s : Sl} (hs : ∀ v ∈ s, Pl v) (h1 : Pl a) (h2 : Pl b) (h3 : Pl c) (h4 : Pl d) (h5 : Pl e) (h6 : Pl f) (h7 : Pl g) (h8 : Pl h) (h9 : Pl i) (h10 : Pl j) : ∀ v ∈ s ++ [a, b, c, d, e, f, g, h, i, j], Pl v := fun v hv => by
  rcases List.mem_append.mp hv with hv | hv
  · exact hs v hv
  · simp only [List.mem_cons, List.not_mem_nil, or_false] at hv
    rcases hv with rfl | rfl | rfl | rfl | rfl | rfl | rfl | rfl | rfl | rfl <;> assumption
theorem pls3 {a b c : SV} (h1 : Pl a) (h2 : Pl b) (h3 : Pl c) : ∀ v ∈ [a, b, c], Pl v := fun v hv => by
  simp only [List.mem_cons, List.not_mem_nil, or_false] at hv
  rcases hv with rfl | rfl | rfl <;> assumption
/-- the state in the law's loop -/
theorem ok_st {a b : PyData} {p : List PyData} {v3 v4 v5 v6 v7 v8 v9 v10 v11 v12 : SV} (h3 : Pl v3) (h4 : Pl v4) (h5 : Pl v5) (h6 : Pl v6) (h7 : Pl v7) (h8 : Pl v8) (h9 : Pl v9) (h10 : Pl v10) (h11 : Pl v11) (h12 : Pl v12) : okTab [.dat a, .dat b, .own p, v3, v4, v5, v6, v7, v8, v9, v10, v11, v12, .tab 0 qt__law_table] 0 qt__law_table = true := by
  have z : ∀ v ∈ [SV.dat a, .dat b, .own p] ++ [v3, v4, v5, v6, v7, v8, v9, v10, v11, v12], Pl v := pls (pls3 (pl_dat _) (pl_dat _) (pl_own _)) h3 h4 h5 h6 h7 h8 h9 h10 h11 h12
  exact ok_tab z
theorem sz_ne {R C R' C' : Nat} {t u : Tb} (o : OkT R C t) (v : OkT R' C' u) (h : R ≠ R' ∨ C ≠ C') : sizeB (tabD t) ≠ sizeB (tabD u) := by
  rw [size_tab o, size_tab v]
  intro e
  cases e
  rcases h with h | h <;> exact h rfl
theorem repr_ok {R C : Nat} {t u : Tb} (o : OkT R C t) (v : OkT R C u) {i j : Nat} {s : Sl} (hi : s[i]? = some (.dat (tabD t))) (hj : s[j]? = some (.dat (tabD u))) {Q : PyData → Sl → Prop} (k : Q (.str (tabD (plusT t u)).shown) s) :
    Ge (dB gRepr (aCons (dCall (okOf m_added) (aCons (dVar i) (aCons (dVar j) aNil))) aNil) s) Q := by
  refine e_b ?_
  refine a_cons ?_
  refine e_call ?_
  refine a_cons ?_
  refine e_var hi ?_
  refine a_cons ?_
  refine e_var hj ?_
  refine a_nil ?_
  refine ok_gd (added_ok o v) ?_
  refine a_nil ?_
  exact gd (repr_tab (sm_plus o v)) k
theorem repr_due {R C : Nat} {t u : Tb} (o : OkT R C t) (v : OkT R C u) {i j : Nat} {s : Sl} (hi : s[i]? = some (.dat (tabD t))) (hj : s[j]? = some (.dat (tabD u))) {Q : PyData → Sl → Prop} (k : Q (.str (tabD (plusT t u)).shown) s) :
    Ge (dB gRepr (aCons (dCall m__law_due (aCons (dVar i) (aCons (dVar j) aNil))) aNil) s) Q := by
  refine e_b ?_
  refine a_cons ?_
  refine e_call ?_
  refine a_cons ?_
  refine e_var hi ?_
  refine a_cons ?_
  refine e_var hj ?_
  refine a_nil ?_
  refine gd_mono (due_ok o v) fun q hq => ?_
  subst hq
  refine a_nil ?_
  exact gd (repr_tab (sm_plus o v)) k
theorem law_ok (ns : List Int) (h : ns.length ≤ 63) : Gs (b_law (startT ["_law_script", "_law_k", "_law_pot_here", "_law_many", "_law_wide", "_law_one", "_law_other", "_law_due_here", "_law_turn", "_law_odd", "_law_far", "_law_broad", "_law_met_here", "~tab"] qt__law_table [script ns])) (fun _ => False) fun d _ => d = .bool true := by
  show Gs (b_law [.dat (script ns), .no, .no, .no, .no, .no, .no, .no, .no, .no, .no, .no, .no, .tab 0 qt__law_table]) _ _
  unfold b_law
  refine s_seq ?_
  refine s_for (I := fun r s => (∀ d ∈ r, ∃ k : Nat, d = .int (k : Int) ∧ k < 100) ∧ ∃ v1 v2 v3 v4 v5 v6 v7 v8 v9 v10 v11 v12 : SV, (Pl v3 ∧ Pl v4 ∧ Pl v5 ∧ Pl v6 ∧ Pl v7 ∧ Pl v8 ∧ Pl v9 ∧ Pl v10 ∧ Pl v11 ∧ Pl v12) ∧ s = [.dat (script ns), v1, v2, v3, v4, v5, v6, v7, v8, v9, v10, v11, v12, .tab 0 qt__law_table]) ?_ (fun d r s hI => ?_) (fun s hI => ?_)
  · refine f_r1 ?_
    refine e_b ?_
    refine a_cons ?_
    refine e_c ?_
    refine a_cons ?_
    refine e_b ?_
    refine a_cons ?_
    refine e_c ?_
    refine a_cons ?_
    refine e_b ?_
    refine a_cons ?_
    refine e_var (d := script ns) rfl ?_
    refine a_nil ?_
    refine gd (a := .int ((ns.map PyData.int).length : Nat)) rfl ?_
    refine a_nil ?_
    refine gd (a := .int (if (((ns.map PyData.int).length : Nat) : Int) < 12 then (((ns.map PyData.int).length : Nat) : Int) else 12)) rfl ?_
    refine a_nil ?_
    refine gd (a := .int (if (if (((ns.map PyData.int).length : Nat) : Int) < 12 then (((ns.map PyData.int).length : Nat) : Int) else 12) > 1 then (if (((ns.map PyData.int).length : Nat) : Int) < 12 then (((ns.map PyData.int).length : Nat) : Int) else 12) else 1)) rfl ?_
    obtain ⟨m, em⟩ : ∃ m : Nat, (m : Int) = (if (if (((ns.map PyData.int).length : Nat) : Int) < 12 then (((ns.map PyData.int).length : Nat) : Int) else 12) > 1 then (if (((ns.map PyData.int).length : Nat) : Int) < 12 then (((ns.map PyData.int).length : Nat) : Int) else 12) else 1) := ⟨_, Int.toNat_of_nonneg (by split <;> split <;> omega)⟩
    rw [← em]
    have lm : m ≤ 12 := by
      split at em <;> split at em <;> omega
    refine ⟨_, rfl, by omega, by omega, fun d hd => ?_, _, _, _, _, _, _, _, _, _, _, _, _, ⟨pl_no, pl_no, pl_no, pl_no, pl_no, pl_no, pl_no, pl_no, pl_no, pl_no⟩, rfl⟩
    rw [rng0] at hd
    obtain ⟨k, hk, rfl⟩ := List.mem_map.mp hd
    have hk' := List.mem_range.mp hk
    exact ⟨k, rfl, by omega⟩
  · obtain ⟨hr, v1, v2, v3, v4, v5, v6, v7, v8, v9, v10, v11, v12, ⟨h3, h4, h5, h6, h7, h8, h9, h10, h11, h12⟩, rfl⟩ := hI
    obtain ⟨k, rfl, hk⟩ := hr d List.mem_cons_self
    have hr' : ∀ d ∈ r, ∃ k : Nat, d = .int (k : Int) ∧ k < 100 := fun e he => hr e (List.mem_cons_of_mem _ he)
    refine ⟨_, rfl, ?_⟩
    refine s_seq ?_
    refine s_own ?_
    refine f_call ?_
    refine a_cons ?_
    refine e_var (d := script ns) rfl ?_
    refine a_cons ?_
    refine e_var (d := .int (k : Nat)) rfl ?_
    refine a_nil ?_
    refine gd_mono (pot_ok (ns := ns) hk) fun pd hpd => ?_
    refine ⟨by show 2 < 14; decide, ?_⟩
    refine at_state [.dat (script ns), .dat (.int (k : Nat)), .own pd, v3, v4, v5, v6, v7, v8, v9, v10, v11, v12, .tab 0 qt__law_table] (by rfl) ?_
    refine s_seq ?_
    refine s_par ?_
    refine e_op ?_
    refine e_c ?_
    refine e_callM (p0 := pd) rfl ?_
    refine a_cons ?_
    refine e_c ?_
    refine a_nil ?_
    refine ⟨pd, rfl, ?_⟩
    refine pot_at hpd (by decide) (by decide) (by decide) fun r1 p1 a1 b1 hp1 => ?_
    refine n_add ?_
    refine e_op ?_
    refine e_c ?_
    refine e_callM (p0 := p1) rfl ?_
    refine a_cons ?_
    refine e_c ?_
    refine a_nil ?_
    refine ⟨p1, rfl, ?_⟩
    refine pot_at hp1 (by decide) (by decide) (by decide) fun r2 p2 a2 b2 hp2 => ?_
    refine n_add ?_
    obtain ⟨R, eR, R1, R8⟩ : ∃ R : Nat, 1 + r1 = (R : Int) ∧ 1 ≤ R ∧ R ≤ 8 := ⟨(1 + r1).toNat, (Int.toNat_of_nonneg (by omega)).symm, by omega, by omega⟩
    obtain ⟨C, eC, C1, C8⟩ : ∃ C : Nat, 1 + r2 = (C : Int) ∧ 1 ≤ C ∧ C ≤ 8 := ⟨(1 + r2).toNat, (Int.toNat_of_nonneg (by omega)).symm, by omega, by omega⟩
    rw [eR, eC]
    refine at_state [.dat (script ns), .dat (.int (k : Nat)), .own p2, .dat (.int R), .dat (.int C), v5, v6, v7, v8, v9, v10, v11, v12, .tab 0 qt__law_table] (by rfl) ?_
    refine s_seq ?_
    refine s_par ?_
    refine e_callMT (p0 := p2) rfl ?_
    refine a_cons ?_
    refine e_var (d := .int R) rfl ?_
    refine a_cons ?_
    refine e_var (d := .int C) rfl ?_
    refine a_nil ?_
    refine ⟨p2, rfl, ok_st (pl_dat _) (pl_dat _) h5 h6 h7 h8 h9 h10 h11 h12, ?_⟩
    refine gd_mono (table_ok hp2 (by decide) ⟨⟨R1, R8⟩, C1, C8⟩) fun q hq => ?_
    obtain ⟨d1, p3⟩ := q
    obtain ⟨t, e, o, hp3⟩ := hq
    have e : d1 = tabD t := e
    subst e
    have hp3 : Pot _ p3 := hp3
    refine e_callMT (p0 := p3) rfl ?_
    refine a_cons ?_
    refine e_var (d := .int R) rfl ?_
    refine a_cons ?_
    refine e_var (d := .int C) rfl ?_
    refine a_nil ?_
    refine ⟨p3, rfl, ok_st (pl_dat _) (pl_dat _) h5 h6 h7 h8 h9 h10 h11 h12, ?_⟩
    refine gd_mono (table_ok hp3 (by omega) ⟨⟨R1, R8⟩, C1, C8⟩) fun q hq => ?_
    obtain ⟨d2, p4⟩ := q
    obtain ⟨u, e, v, hp4⟩ := hq
    have e : d2 = tabD u := e
    subst e
    have hp4 : Pot _ p4 := hp4
    have to := tz_tab o
    have tv := tz_tab v
    have so := size_tab o
    have sv := size_tab v
    refine at_state [.dat (script ns), .dat (.int (k : Nat)), .own p4, .dat (.int R), .dat (.int C), .dat (tabD t), .dat (tabD u), v7, v8, v9, v10, v11, v12, .tab 0 qt__law_table] (by rfl) ?_
    refine s_seq ?_
    refine s_set ?_
    refine repr_due o v rfl rfl ?_
    refine at_state [.dat (script ns), .dat (.int (k : Nat)), .own p4, .dat (.int R), .dat (.int C), .dat (tabD t), .dat (tabD u), .dat (.str (tabD (plusT t u)).shown), v8, v9, v10, v11, v12, .tab 0 qt__law_table] (by rfl) ?_
    refine s_seq ?_
    refine s_if ?_
    refine t_or ?_
    refine t_tst ?_
    refine e_op ?_
    refine repr_ok o v rfl rfl ?_
    refine e_var (d := .str (tabD (plusT t u)).shown) rfl ?_
    refine gd (ne_text _) ⟨_, rfl, .inr ⟨rfl, ?_⟩⟩
    refine t_tst ?_
    refine e_op ?_
    refine repr_ok v o rfl rfl ?_
    rw [plusT_comm u t]
    refine e_var (d := .str (tabD (plusT t u)).shown) rfl ?_
    refine gd (ne_text _) ⟨_, rfl, .inr ⟨rfl, ?_⟩⟩
    refine s_nil ?_
    generalize (tabD (plusT t u)).shown = S
    refine s_seq ?_
    refine s_for (I := fun r' s => (r'.length ≤ 4) ∧ ∃ (p : List PyData) (v8 v9 : SV), (Pl v8 ∧ Pl v9) ∧ s = [.dat (script ns), .dat (.int (k : Nat)), .own p, .dat (.int R), .dat (.int C), .dat (tabD t), .dat (tabD u), .dat (.str S), v8, v9, v10, v11, v12, .tab 0 qt__law_table] ∧ Pot (2000 + 10 * (4 - r'.length)) p) ?_ (fun d r' s hI => ?_) (fun s hI => ?_)
    · refine f_r1 ?_
      refine e_c ?_
      exact ⟨4, rfl, by decide, by decide, Nat.le_of_ble_eq_true rfl, p4, _, _, ⟨h8, h9⟩, rfl, hp4.mono (by omega)⟩
    · obtain ⟨lr, p, v8, v9, ⟨h8, h9⟩, rfl, hp⟩ := hI
      rw [List.length_cons] at lr hp
      refine ⟨_, rfl, ?_⟩
      refine at_state [.dat (script ns), .dat (.int (k : Nat)), .own p, .dat (.int R), .dat (.int C), .dat (tabD t), .dat (tabD u), .dat (.str S), .dat d, v9, v10, v11, v12, .tab 0 qt__law_table] (by rfl) ?_
      refine s_seq ?_
      refine s_set ?_
      refine e_callM (p0 := p) rfl ?_
      refine a_cons ?_
      refine e_var (d := tabD t) rfl ?_
      refine a_cons ?_
      refine e_var (d := .int R) rfl ?_
      refine a_cons ?_
      refine e_var (d := .int C) rfl ?_
      refine a_nil ?_
      refine ⟨p, rfl, ?_⟩
      refine gd_mono (no_table_ok o hp (by omega)) fun q hq => ?_
      obtain ⟨x, p5⟩ := q
      obtain ⟨⟨tx, sx⟩, hp5⟩ := hq
      have hp5 : Pot _ p5 := hp5
      have tx : Tz x := tx
      have sx : sizeB x = none := sx
      refine at_state [.dat (script ns), .dat (.int (k : Nat)), .own p5, .dat (.int R), .dat (.int C), .dat (tabD t), .dat (tabD u), .dat (.str S), .dat d, .dat x, v10, v11, v12, .tab 0 qt__law_table] (by rfl) ?_
      refine s_if ?_
      refine t_tst ?_
      refine e_op ?_
      refine e_l ?_
      refine f_lst ?_
      refine a_cons ?_
      refine e_call ?_
      refine a_cons ?_
      refine e_var (d := x) rfl ?_
      refine a_cons ?_
      refine e_var (d := tabD u) rfl ?_
      refine a_nil ?_
      refine gd_mono (met_bad tx tv (.inl sx)) fun q hq => ?_
      subst hq
      refine a_cons ?_
      refine e_call ?_
      refine a_cons ?_
      refine e_var (d := tabD u) rfl ?_
      refine a_cons ?_
      refine e_var (d := x) rfl ?_
      refine a_nil ?_
      refine gd_mono (met_bad tv tx (.inr (by rw [sv, sx]; intro e; cases e))) fun q hq => ?_
      subst hq
      refine a_cons ?_
      refine e_call ?_
      refine a_cons ?_
      refine e_var (d := x) rfl ?_
      refine a_cons ?_
      refine e_var (d := x) rfl ?_
      refine a_nil ?_
      refine gd_mono (met_bad tx tx (.inl sx)) fun q hq => ?_
      subst hq
      refine a_nil ?_
      refine ⟨by show 3 ≤ _; decide, ?_⟩
      refine e_op ?_
      refine e_l ?_
      refine f_lst ?_
      refine a_cons ?_
      refine e_c ?_
      refine a_nil ?_
      refine ⟨by show 1 ≤ _; decide, ?_⟩
      refine e_c ?_
      refine gd mul3 ?_
      refine gd ne3 ⟨_, rfl, .inr ⟨rfl, ?_⟩⟩
      refine s_nil ?_
      exact ⟨by omega, p5, _, _, ⟨pl_dat _, pl_dat _⟩, rfl, hp5.mono (by omega)⟩
    · obtain ⟨_, p, v8, v9, ⟨h8, h9⟩, rfl, hp⟩ := hI
      rw [List.length_nil] at hp
      refine s_seq ?_
      refine s_set ?_
      refine e_callMT (p0 := p) rfl ?_
      refine a_cons ?_
      refine e_op ?_
      refine e_op ?_
      refine e_var (d := .int R) rfl ?_
      refine e_c ?_
      refine n_mod (by decide) fun l1 l2 => ?_
      refine e_c ?_
      refine n_add ?_
      refine a_cons ?_
      refine e_var (d := .int C) rfl ?_
      refine a_nil ?_
      refine ⟨p, rfl, ok_st (pl_dat _) (pl_dat _) (pl_dat _) (pl_dat _) (pl_dat _) h8 h9 h10 h11 h12, ?_⟩
      have eR : (R : Int) % 8 + 1 = ((R % 8 + 1 : Nat) : Int) := by omega
      rw [eR]
      refine gd_mono (table_ok (R := R % 8 + 1) hp (by decide) ⟨⟨by omega, by omega⟩, C1, C8⟩) fun q hq => ?_
      obtain ⟨d3, p6⟩ := q
      obtain ⟨far, e, fo, hp6⟩ := hq
      have e : d3 = tabD far := e
      subst e
      have hp6 : Pot _ p6 := hp6
      refine at_state [.dat (script ns), .dat (.int (k : Nat)), .own p6, .dat (.int R), .dat (.int C), .dat (tabD t), .dat (tabD u), .dat (.str S), v8, v9, .dat (tabD far), v11, v12, .tab 0 qt__law_table] (by rfl) ?_
      refine s_seq ?_
      refine s_set ?_
      refine e_callMT (p0 := p6) rfl ?_
      refine a_cons ?_
      refine e_var (d := .int R) rfl ?_
      refine a_cons ?_
      refine e_op ?_
      refine e_op ?_
      refine e_var (d := .int C) rfl ?_
      refine e_c ?_
      refine n_mod (by decide) fun l3 l4 => ?_
      refine e_c ?_
      refine n_add ?_
      refine a_nil ?_
      refine ⟨p6, rfl, ok_st (pl_dat _) (pl_dat _) (pl_dat _) (pl_dat _) (pl_dat _) h8 h9 (pl_dat _) h11 h12, ?_⟩
      have eC : (C : Int) % 8 + 1 = ((C % 8 + 1 : Nat) : Int) := by omega
      rw [eC]
      refine gd_mono (table_ok (C := C % 8 + 1) hp6 (by decide) ⟨⟨R1, R8⟩, by omega, by omega⟩) fun q hq => ?_
      obtain ⟨d4, p7⟩ := q
      obtain ⟨broad, e, bo, hp7⟩ := hq
      have e : d4 = tabD broad := e
      subst e
      refine at_state [.dat (script ns), .dat (.int (k : Nat)), .own p7, .dat (.int R), .dat (.int C), .dat (tabD t), .dat (tabD u), .dat (.str S), v8, v9, .dat (tabD far), .dat (tabD broad), v12, .tab 0 qt__law_table] (by rfl) ?_
      refine s_seq ?_
      refine s_set ?_
      refine e_l ?_
      refine f_lst ?_
      refine a_cons ?_
      refine e_call ?_
      refine a_cons ?_
      refine e_var (d := tabD t) rfl ?_
      refine a_cons ?_
      refine e_var (d := tabD far) rfl ?_
      refine a_nil ?_
      refine gd_mono (met_bad to (tz_tab fo) (.inr (sz_ne o fo (.inl (by omega))))) fun q hq => ?_
      subst hq
      refine a_cons ?_
      refine e_call ?_
      refine a_cons ?_
      refine e_var (d := tabD far) rfl ?_
      refine a_cons ?_
      refine e_var (d := tabD t) rfl ?_
      refine a_nil ?_
      refine gd_mono (met_bad (tz_tab fo) to (.inr (sz_ne fo o (.inl (by omega))))) fun q hq => ?_
      subst hq
      refine a_cons ?_
      refine e_call ?_
      refine a_cons ?_
      refine e_var (d := tabD t) rfl ?_
      refine a_cons ?_
      refine e_var (d := tabD broad) rfl ?_
      refine a_nil ?_
      refine gd_mono (met_bad to (tz_tab bo) (.inr (sz_ne o bo (.inr (by omega))))) fun q hq => ?_
      subst hq
      refine a_cons ?_
      refine e_call ?_
      refine a_cons ?_
      refine e_var (d := tabD broad) rfl ?_
      refine a_cons ?_
      refine e_var (d := tabD t) rfl ?_
      refine a_nil ?_
      refine gd_mono (met_bad (tz_tab bo) to (.inr (sz_ne bo o (.inr (by omega))))) fun q hq => ?_
      subst hq
      refine a_nil ?_
      refine ⟨by show 4 ≤ _; decide, ?_⟩
      refine at_state [.dat (script ns), .dat (.int (k : Nat)), .own p7, .dat (.int R), .dat (.int C), .dat (tabD t), .dat (tabD u), .dat (.str S), v8, v9, .dat (tabD far), .dat (tabD broad), .dat (.list [.str "table", .str "table", .str "table", .str "table"]), .tab 0 qt__law_table] (by rfl) ?_
      refine s_seq ?_
      refine s_if ?_
      refine t_tst ?_
      refine e_op ?_
      refine e_var (d := .list [.str "table", .str "table", .str "table", .str "table"]) rfl ?_
      refine e_op ?_
      refine e_l ?_
      refine f_lst ?_
      refine a_cons ?_
      refine e_c ?_
      refine a_nil ?_
      refine ⟨by show 1 ≤ _; decide, ?_⟩
      refine e_c ?_
      refine gd mul4 ?_
      refine gd ne4 ⟨_, rfl, .inr ⟨rfl, ?_⟩⟩
      refine s_nil ?_
      refine s_if ?_
      refine t_tst ?_
      refine e_op ?_
      refine repr_ok o o rfl rfl ?_
      refine repr_due o o rfl rfl ?_
      refine gd (ne_text _) ⟨_, rfl, .inr ⟨rfl, ?_⟩⟩
      refine s_nil ?_
      exact ⟨hr', _, _, _, _, _, _, _, _, _, _, _, _, ⟨pl_dat _, pl_dat _, pl_dat _, pl_dat _, pl_dat _, h8, h9, pl_dat _, pl_dat _, pl_dat _⟩, rfl⟩
  · refine s_ret ?_
    refine e_c ?_
    rfl
theorem law_true (ns : List Int) (h : ns.length ≤ 63) : fnT ["_law_script", "_law_k", "_law_pot_here", "_law_many", "_law_wide", "_law_one", "_law_other", "_law_due_here", "_law_turn", "_law_odd", "_law_far", "_law_broad", "_law_met_here", "~tab"] qt__law_table 1 b_law [.dict [(.none, .list (ns.map .int))]] = some (.bool true) := by
  obtain ⟨⟨s, e, z⟩ | ⟨d, s, e, rfl⟩⟩ := law_ok ns h
  · exact z.elim
  · unfold fnT
    rw [if_pos (show [PyData.dict [(PyData.none, PyData.list (ns.map PyData.int))]].length = 1 from rfl)]
    have e' : b_law (startT ["_law_script", "_law_k", "_law_pot_here", "_law_many", "_law_wide", "_law_one", "_law_other", "_law_due_here", "_law_turn", "_law_odd", "_law_far", "_law_broad", "_law_met_here", "~tab"] qt__law_table [.dict [(.none, .list (ns.map .int))]]) = _ := e
    rw [e']
    rfl
end K62

open PySem PySem.W PySem.Calls PyProof.Rows
theorem PySem.Challenge.cw_askround_k62_tables_added_holds : PySem.Challenge.rw_askround_k62_tables_added.Holds := by
  w_on; o_law
  refine HandSHeadRun.head_imp (r := K62.R_) (q := view K62.R_.prog [0, 54]) (H := K62.hk_) (ob := K62.ob_) (M := 30000) (loose := K62.names_) (d := HandSHeadRun.topDef K62.R_.prog 54) (kwd := []) K62.ob_eq
    K62.run_ (by kernel_rfl) (by kernel_rfl) (by kernel_rfl) (by rfl) (by first | assumption | decide +kernel) (by decide +kernel) ⟨rfl, rfl, rfl, rfl, rfl, by decide +kernel⟩ ?hw ?hc
  case hw => w_witness2
  case hc =>
    exact Dl.walk_dataN K62.dd_ (l := PySem.Challenge.rw_askround_k62_tables_added) (n := 63) (k := 7) (qq := K62.qt__law_table) rfl (by decide) (by kernel_rfl) (by kernel_rfl) (by kernel_rfl) ⟨rfl, by decide, by decide⟩ K62.sc_law (by decide) (fun w mg h K X G c cc bb Fx => K62.facts_ w mg h K X G c cc bb Fx) K62.law_true
